"""Points [27] to [31] and [36]: texts of formulas, right and wrong ones."""

import random
import unittest

from allscales.errors import BadName, BadText, NoName, TooDeep
from allscales.formulas import Formulas
from allscales.units import Units
from formula_model import UNITS, WORDS, Texts, first_error
from support import NO_TEXTS, called, raised, shown

NAMED = Units(UNITS)
KNOWN = "k = 2 [km]\nf(a) = a\ng(a[m], b) = a\n"
POOL = ("if then else k f g a b x q zz abcdefghijkl abcdefghijklm If 0 1 2 00 0.5 1.50 2. .5 1..2 3a + - * / ^ ( ) [ ] "
        "[m] [m^2 [1] [] [1 m] [m  s] [M] [c] [q^2] [s] , < = > ! . _ A @ ^2 ^-1 ^(1/2) ^(-3/6) ^(1/0) ^(2 ^0.5 ^^ "
        "f(1) g(1,2) g(1) (a) -a --a").split(" ") + ["\t", "\u00e9", "\u0663", "\r"]


class Right(unittest.TestCase):
    def test_plain(self):
        text = KNOWN + "\n   \nh1 ( x [ m ] ) [m s^-1]=if x<k then-x^2/g(x ,3)else 0.25[v]*(f(x))^(-1/2)  "
        # The blank ahead of a word of units is an empty word.
        raised(self, BadText, (6, 9), Formulas, NAMED, text)
        formulas = Formulas(NAMED, text.replace("[ m ]", "[m]"))
        self.assertIs(formulas.units, NAMED)
        self.assertEqual(formulas.text, text.replace("[ m ]", "[m]"))
        self.assertEqual(shown(formulas.names), shown(("k", "f", "g", "h1")))
        self.assertEqual(shown(called(self, formulas.params, "h1")), shown(("x",)))
        self.assertEqual(shown(formulas.params("g")), shown(("a", "b")))
        self.assertEqual(shown(formulas.params("k")), shown(()))
        self.assertEqual(shown(called(self, formulas.told_units, "h1")), shown(((1, 0), (1, -1))))
        self.assertEqual(shown(formulas.told_units("g")), shown(((1, 0), None, None)))
        self.assertEqual(shown(formulas.told_units("k")), shown((None,)))

    def test_texts_without_formulas(self):
        for text in ("", "\n", "   ", "  \n\n   \n"):
            formulas = Formulas(NAMED, text)
            self.assertEqual(formulas.names, ())
            self.assertEqual(formulas.text, text)
            raised(self, NoName, ("k",), formulas.params, "k")

    def test_names_may_be_those_of_others_words(self):
        text = "m(s, km) = s*km\nbase(m1) = m1\nunit(x) = x\nthenx(iff, else1) = iff+else1\nx(y) = y\ny(x1) = x1"
        self.assertEqual(Formulas(NAMED, text).names, ("m", "base", "unit", "thenx", "x", "y"))

    def test_random_texts(self):
        source = random.Random(271)
        for _ in range(200):
            texts = Texts(source, NAMED)
            formulas = Formulas(NAMED, texts.text)
            self.assertEqual(formulas.names, tuple(texts.names()))
            self.assertEqual(formulas.text, texts.text)
            for line in texts.lines:
                self.assertEqual(formulas.params(line.name), tuple([letter for letter, _ in line.letters]))
                units = [words for _, words in line.letters] + [line.unit]
                due = tuple([None if words is None else NAMED.exponents_of(words) for words in units])
                self.assertEqual(shown(formulas.told_units(line.name)), shown(due))

    def test_names_that_are_none(self):
        formulas = Formulas(NAMED, KNOWN)
        for method, more in ((formulas.params, ()), (formulas.told_units, ()), (formulas.work, ([],)),
                             (formulas.quotient, ())):
            for name in NO_TEXTS:
                raised(self, BadName, (name,), method, name, *more)
            for name in ("", "x", "a", "K", "k ", "if", "f(a)", "abcdefghijklmnop"):
                raised(self, NoName, (name,), method, name, *more)


class Wrong(unittest.TestCase):
    def wrong(self, *marked):
        """Fails unless each line, behind those of KNOWN, is wrong at the sign behind its mark ~, if there is one."""
        for text in marked:
            column = text.index("~") + 1
            line = text.replace("~", "")
            self.assertEqual(first_error(KNOWN + line, NAMED), (4, column), text)
            raised(self, BadText, (4, column), Formulas, NAMED, KNOWN + line)
            raised(self, BadText, (4, column), Formulas, NAMED, KNOWN + line + "\nthis is (no line")

    def test_no_text(self):
        for value in NO_TEXTS:
            raised(self, BadText, (0, 0), Formulas, NAMED, value)

    def test_heads(self):
        self.wrong("~= 2", "~2 = 2", "~if = 2", "~then(a) = 2", "~else = 2", "~k = 2", "~f(x) = 2",
                   "~abcdefghijklm = 2",
                   "~X = 2", "~(x) = 2", "~[m] = 2", "  ~f = 1", "~\tx = 1", "x~", "x   ~", "x ~y = 2", "x~[m] = 2",
                   "x~,y = 2", "x~-1 = 2", "x = ~", "x~A = 1", "x(~) = 2", "x(y,~) = 2", "x(~,y) = 2", "x(~2) = 2",
                   "x(~if) = 2", "x(~k) = 2", "x(~f) = 2", "x(~x) = 2", "x(y,~y) = 2", "x(y,~k) = 2", "x(y,~x) = 1",
                   "x(y~", "x(~", "x(y ~z) = 2", "x(y)~", "x(y) ~2", "x(y) ~(z) = 1", "x(y,~", "x(~abcdefghijklm) = 2",
                   "x(y~=2) = 2", "x(y[m]~[s]) = 2", "x(y)[m]~[s] = 2", "x(~(y)) = 2", "x(y~+1) = 2", "x(y)= ~",
                   "x(y ~", "x( ~)", "x(y)[m] ~)", "x~<2", "x ~if", "x(y[m]~", "x(y[m] ~z) = 1")

    def test_unit_words(self):
        self.wrong("x(y[~]) = 2", "x(y[~ m]) = 2", "x(y[m ~]) = 2", "x(y[m ~ s]) = 2", "x(y[~M]) = 2", "x(y[~q]) = 2",
                   "x(y[~c]) = 2", "x(y[1 ~m]) = 2", "x(y[m ~1]) = 2", "x(y[~m^100]) = 2", "x(y[~2]) = 2",
                   "x(y[m ~s^01]) = 2", "x(y[~(]) = 2", "x(y[~m,s]) = 2", "x(y[m s~", "x(y[~", "x(y[m ~", "x(y[m~",
                   "x(y)[~]", "x(y)[~", "x(y)[~k] = 1", "x(y)[m~", "x = 2 [~]", "x = 2 [~q]", "x = 2 [m ~q",
                   "x = 2 [m~",
                   "x = 2 [~[m]]", "x = 2 [m]~]", "x = 2 [m] ~[s]", "x(y[~m=2) = 1", "x = 2 [~", "x(y[1 ~1]) = 1",
                   "x(y[1 ~]) = 1", "x(y[m s ~q A]) = 1", "x(y[~m\t]) = 1", "x(y[m s^-1]~", "x(y)[m s] ~+")

    def test_expressions(self):
        self.wrong("x = ~+1", "x = -~-1", "x = 1 +~", "x = 1 + ~", "x = 1 + ~+ 2", "x = 1 * ~/ 2", "x = 1 - -~-2",
                   "x = ~*1",
                   "x = ~)", "x = (~)", "x = (1~", "x = (1)~)", "x = 1 ~2", "x = 1 ~k", "x = k ~1", "x = 1 ~(2)",
                   "x = k~()", "x = k~(1)", "x = f~", "x = f ~+ 1", "x = f(~)", "x = f(1~,2)", "x = g(1~)",
                   "x = g(1,2~,3)",
                   "x = g(1,~)", "x = g(1~", "x = g(1,2~", "x = ~y", "x = ~x", "x(y)=y~(1)", "x = 2~(k)", "x(y) = ~z",
                   "x(y) = y ~[m]", "x(y) = k ~[m]", "x = (2) ~[m]", "x = 1 ~= 2", "x = 1 ~< 2", "x = 1~, 2",
                   "x = ~[m]",
                   "x = ~abcdefghijklm", "x = 2 ~abcdefghijklm", "x = ~A", "x = 2~A", "x = 2~\u00e9", "x = 2~.\u0663",
                   "x = 2~.", "x = ~.5", "x = 2.5~.5", "x = 2~..5", "x = 2~a", "x = 1 + 2~\t", "x = 2 ~& 3",
                   "x = (1 ~k)",
                   "x = (1~,2)", "x = g(1 ~2)", "x = f(1~]", "x = f ~[m]", "x = ~_", "x = 1 ~then", "x = ~else",
                   "x = 2^~k", "x = f(1)~(2)", "x = f(1)~[m]", "x = ~\u00b2")

    def test_powers(self):
        self.wrong("x = 2^~", "x = 2^-~", "x = 2^~k", "x = 2^~0.5", "x = 2^2~^2", "x = 2^-~0.5", "x = 2^-~-1",
                   "x = 2^(~)",
                   "x = 2^(1~", "x = 2^(1~.", "x = 2^(~1.5/2)", "x = 2^(1/~0)", "x = 2^(1/~00)", "x = 2^(1/~-2)",
                   "x = 2^(1/~2.5)", "x = 2^(1/~)", "x = 2^(1~+1)", "x = 2^(~(1))", "x = 2^(~k)", "x = 2^(1/2~/3)",
                   "x = 2^(1/~0.0)", "x = 2^(1/2~", "x = 2^(-~-1)", "x = 2^~^2", "x = 2^(1/2)~^2", "x = 2^~+1",
                   "x = 2^(~+1)", "x = 2^1~[m]", "x = ~^2", "x = -2^2 ~^2", "x = 2^~[m]", "x = 2^2~(3)", "x = 2^(~",
                   "x = 2^(1~,", "x = 2^(1/~", "x = 2^(1 ~", "x = 2^(1~^2)", "x = 2^~if", "x = 2^1~k")

    def test_ifs(self):
        self.wrong("x = if~", "x = if ~", "x = if ~if 1<2 then 1 else 2 < 3 then 1 else 2", "x = if 1 ~then",
                   "x = if 1 ~= 2",
                   "x = if 1 < ~< 2", "x = if 1 < 2 ~< 3", "x = if 1 < 2~", "x = if 1 < 2 ~else 3",
                   "x = if 1 < 2 then~",
                   "x = if 1 < 2 then 3~", "x = if 1 < 2 then 3 ~then 4", "x = if 1 < 2 then 3 else ~",
                   "x = if 1 < 2 then 3 else 4 ~else 5", "x = if 1 < 2 then 3 else 4 ~< 5",
                   "x = 1 + ~if 1 < 2 then 3 else 4", "x = -~if 1 < 2 then 3 else 4", "x = ~then", "x = if (1 ~if 1",
                   "x = (if 1 < 2 then 3 ~4", "x = if 1 < 2 ~, 3", "x = if ~< 2", "x = if 1 < ~if 1", "x = if 1 < 2 ~)",
                   "x = (if 1 < 2 then 3 else 4 ~", "x = if 1 < 2 then 3 +~", "x = (if 1 < 2 then 3 ~)",
                   "x = f(if 1 < 2 then 3 else 4~,", "x = if 1 < 2 then if 1 < 2 then 3 else 4 else 5 ~else 6",
                   "x = if 1 < 2 then if 1 < 2 then 3 else 4~", "x = if 1 < 2 then ~< 3", "x = ~if1 < 2", "x = 2 * ~if",
                   "x = if 1 < 2 then 3 else 4 ^~^")

    def test_names_of_later_lines(self):
        raised(self, BadText, (1, 5), Formulas, NAMED, "x = y\ny = 1")
        raised(self, BadText, (1, 8), Formulas, NAMED, "x(a) = y(a)\ny(a) = a")
        raised(self, BadText, (1, 8), Formulas, NAMED, "x(a) = x(a)")
        raised(self, BadText, (3, 1), Formulas, NAMED, "x(a) = a\n\nx = 1")
        raised(self, BadText, (2, 3), Formulas, NAMED, "x(a) = a\ny(x) = x")
        self.assertEqual(Formulas(NAMED, "x(y) = y\ny = x(1)").names, ("x", "y"))

    def test_each_place_with_each_token(self):
        source = random.Random(272)
        wrong = deep = 0
        for _ in range(1500):
            texts = Texts(source, NAMED, most=3)
            line = source.choice(texts.lines)
            marks = [mark.text for mark in line.marks()]
            at = source.randrange(len(marks) + 1)
            kind = source.random()
            if kind < 0.4:
                marks[at:at + 1] = [source.choice(POOL)]
            elif kind < 0.7:
                marks[at:at] = [source.choice(POOL)]
            elif kind < 0.85:
                del marks[at:at + source.randint(1, 3)]
            else:
                del marks[at:]
            changed = list(texts.texts)
            changed[line.number - 1] = source.choice(("", " ")).join(marks)
            text = "\n".join(changed)
            error = first_error(text, NAMED)
            if error is None:
                self.assertEqual(Formulas(NAMED, text).text, text)
            else:
                wrong += 1
                raised(self, BadText, error, Formulas, NAMED, text)
        self.assertGreater(wrong, 900)

    def test_signs_at_random(self):
        source = random.Random(273)
        for _ in range(1500):
            texts = Texts(source, NAMED, most=2)
            signs = list(texts.text)
            for _ in range(source.choice((1, 1, 2))):
                at = source.randrange(len(signs) + 1)
                signs[at:at + source.choice((0, 1))] = [source.choice("ab1 0.+-*/^()[],<=A\n\t_e")]
            text = "".join(signs)
            error = first_error(text, NAMED)
            if error is None:
                self.assertEqual(Formulas(NAMED, text).text, text)
            else:
                raised(self, BadText, error, Formulas, NAMED, text)


class Depth(unittest.TestCase):
    def nested(self, many, kind, inside="1"):
        """The text of an expression with so many things open, and the length of what opens them."""
        opening = {"(": "(", "call": "f(", "if": "if 1<2 then ", "else": "if 1<2 then 3 else ", "side": "g(1,",
                   "left": "if(", "mixed": "-(2*f(if 0<(3) then "}[kind]
        closing = {"(": ")", "call": ")", "if": " else 4", "else": "", "side": ")", "left": ")<1 then 1 else 2",
                   "mixed": " else 1))"}[kind]
        return opening * many + inside + closing * many

    def test_fifty_are_let(self):
        for kind in ("(", "call", "if", "else", "side"):
            self.assertEqual(len(Formulas(NAMED, KNOWN + "x = " + self.nested(50, kind)).names), 4)
            raised(self, TooDeep, (50,), Formulas, NAMED, KNOWN + "x = " + self.nested(51, kind))
            raised(self, TooDeep, (50,), Formulas, NAMED, KNOWN + "x = " + self.nested(400, kind))
            self.assertEqual(first_error(KNOWN + "x = " + self.nested(51, kind), NAMED), "deep")
        for kind, many in (("left", 25), ("mixed", 16)):
            self.assertEqual(len(Formulas(NAMED, KNOWN + "x = " + self.nested(many, kind)).names), 4)
            raised(self, TooDeep, (50,), Formulas, NAMED, KNOWN + "x = " + self.nested(26, kind))

    def test_brackets_of_exponents_and_heads_are_not_counted(self):
        self.assertEqual(len(Formulas(NAMED, KNOWN + "x(y) = " + self.nested(50, "(", "y^(1/2)")).names), 4)
        self.assertEqual(len(Formulas(NAMED, KNOWN + "x(y) = " + self.nested(50, "if", "y^(-1/2)")).names), 4)
        raised(self, TooDeep, (50,), Formulas, NAMED, KNOWN + "x(y) = " + self.nested(50, "(", "(y)^(1/2)"))

    def test_what_has_ended_is_not_counted(self):
        for kind in ("(", "call", "side"):
            row = "+".join([self.nested(50, kind)] * 3)
            self.assertEqual(len(Formulas(NAMED, KNOWN + "x = " + row).names), 4)
        row = "g(" + self.nested(49, "if") + "," + self.nested(49, "else") + ")"
        self.assertEqual(len(Formulas(NAMED, KNOWN + "x = " + row).names), 4)
        row = "if 1<2 then " + self.nested(49, "if") + " else " + self.nested(49, "(")
        self.assertEqual(len(Formulas(NAMED, KNOWN + "x = " + row).names), 4)
        raised(self, TooDeep, (50,), Formulas, NAMED, KNOWN + "x = " + row.replace(" else (", " else ((", 1))

    def test_wrong_tokens_ahead_and_behind(self):
        start = KNOWN + "x = "
        raised(self, BadText, (4, 55), Formulas, NAMED, start + "(" * 50 + ")")
        raised(self, TooDeep, (50,), Formulas, NAMED, start + "(" * 51 + ")")
        raised(self, BadText, (4, 5), Formulas, NAMED, start + ")" + "(" * 51)
        raised(self, BadText, (4, 56), Formulas, NAMED, start + "(" * 50 + "1(")
        raised(self, BadText, (4, 56), Formulas, NAMED, start + "(" * 50 + "k(")
        raised(self, BadText, (4, 56), Formulas, NAMED, start + "(" * 50 + "f")
        raised(self, TooDeep, (50,), Formulas, NAMED, start + "(" * 50 + "f(")
        raised(self, BadText, (4, 57), Formulas, NAMED, start + "(" * 50 + "1+if")
        raised(self, TooDeep, (50,), Formulas, NAMED, start + "(" * 50 + "if @")
        raised(self, TooDeep, (50,), Formulas, NAMED, start + "(" * 51 + " A")
        raised(self, BadText, (5, 5), Formulas, NAMED, start + "1\ny = @" + "(" * 51)
        raised(self, BadText, (4, 6), Formulas, NAMED, start + "1@\ny = " + "(" * 51)

    def test_long_rows_are_no_depth(self):
        for row in ("+".join(["1"] * 500), "-1" * 500, "*".join(["(1)"] * 240), "/".join(["f(2)"] * 190),
                    "+".join(["2^(1/2)"] * 120), "1+" * 499 + "2", "g(1,2)*" * 140 + "1"):
            self.assertEqual(Formulas(NAMED, KNOWN + "x = " + row).names, ("k", "f", "g", "x"))


class Limits(unittest.TestCase):
    def test_long_texts(self):
        lines = [f"n{k}(a[m], b)[{source}] = " + " + ".join(["a*b^2"] * 120) for k, source in zip(range(60), WORDS * 6)]
        lines = [line[:989] for line in lines]
        lines = [line[:line.rindex(" + ")].ljust(1000) for line in lines]
        self.assertEqual(len(Formulas(NAMED, "\n".join(lines)).names), 60)
        wrong = lines[:-1] + [lines[-1].rstrip() + " @".rjust(1000 - len(lines[-1].rstrip()))]
        raised(self, BadText, (60, 1000), Formulas, NAMED, "\n".join(wrong))
        wrong = lines[:-1] + [lines[-1][:990].rstrip() + " + "]
        raised(self, BadText, (60, len(wrong[-1]) + 1), Formulas, NAMED, "\n".join(wrong))
        self.assertEqual(Formulas(NAMED, "x = " + "7" * 996).names, ("x",))
        self.assertEqual(Formulas(NAMED, "x = 0." + "7" * 9996).names, ("x",))
        raised(self, BadText, (1, 1), Formulas, NAMED, "z" * 1000)
        raised(self, BadText, (1, 5), Formulas, NAMED, "x = " + "z" * 996)


if __name__ == "__main__":
    unittest.main()
