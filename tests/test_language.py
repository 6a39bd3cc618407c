"""The rules of the language that a look at the files can tell, and the names of the interface."""

import ast
import importlib
import os
import unittest

ROOT = os.path.dirname(os.path.dirname(os.path.abspath(__file__)))
PACKAGE = os.path.join(ROOT, "allscales")
BUILTINS = ("len range enumerate zip min max sum abs sorted reversed int str bool bytes list tuple dict set isinstance "
            "ord repr any all divmod ValueError NotImplemented").split()
METHODS = ("append clear copy count endswith extend find get index insert isalnum isalpha isdigit islower isspace "
           "isupper items join keys ljust lower lstrip partition pop remove replace reverse rfind rjust rpartition "
           "rsplit rstrip setdefault split splitlines startswith strip update upper values zfill bit_length").split()
LIBRARY = {"math": ("gcd", "lcm", "isqrt", "comb", "perm", "factorial")}
OPERATORS = ("__init__ __eq__ __add__ __sub__ __mul__ __neg__").split()
BARRED = ("register mro elements open input law version_info with_traceback add_note type compile dir eval exec exit "
          "globals help id locals os quit super vars hash map filter next iter").split()
BARRED_WORDS = ("typing enum Enum Flag Generic Protocol ABC namedtuple dataclass overload contextmanager").split()
NO_ATTRIBUTES = ("items keys values pop update append clear extend insert remove reverse setdefault sort args encode "
                 "decode hex fromhex format").split()
NODES = (ast.Global, ast.AsyncFunctionDef, ast.Await, ast.Lambda, ast.Yield, ast.YieldFrom, ast.GeneratorExp,
         ast.With, ast.Match, ast.NamedExpr, ast.Nonlocal, ast.Delete, ast.Assert, ast.Div, ast.Set, ast.SetComp)
INTERFACE = {
    "errors": "ScaleError BadText BadNumber BadName BadMatrix Unlike ByZero NotPower HasIf NoUnit NoName TakenName "
              "TooDeep TooMany TooLarge NotWhole Contradicted NotKept NothingToUndo NothingToRedo",
    "ratios": "ratio_of/1 ratio_text/1 root_of/2",
    "powers": "power_value/3 power_product/1",
    "matrices": "Hermite Smith Answer Bar hermite/1 smith/1 basis_of/1 kernel/1 saturated/1 index_of/1 in_lattice/2 "
                "alike_lattices/2 whole_answer/2 ratio_answer/2",
    "polys": "Poly:__add__/2 Poly:__sub__/2 Poly:__mul__/2 Poly:__neg__/1 Poly:__eq__/2 Poly:at/2 Poly:slope/2 "
             "Poly:parts/2 Poly:__init__/3",
    "quotients": "Quotient:__add__/2 Quotient:__sub__/2 Quotient:__mul__/2 Quotient:__neg__/1 Quotient:__eq__/2 "
                 "Quotient:over/2 Quotient:power/2 Quotient:at/2 Quotient:__init__/3 same/2 is_nothing/1 number_of/2 "
                 "letter_of/2 put_in/3 monomial_of/1",
    "amounts": "Amount:__add__/2 Amount:__sub__/2 Amount:__mul__/2 Amount:__neg__/1 Amount:__eq__/2 Amount:less/2 "
               "Amount:over/2 Amount:power/2 Amount:__init__/3 Loop:__init__/4 read_amount/2 amount_text/3 converted/4 "
               "ring_of/1",
    "conversions": "Sizes:__init__/2 Ring:__init__/3 Loose:__init__/2 sizes/2 size_settled/3 loose_ends/2",
    "formulas": "Formulas:__init__/3 Formulas:params/2 Formulas:told_units/2 Formulas:work/3 Formulas:quotient/2",
    "inference": "Demand:__init__/4 General:__init__/3 Clash:__init__/5 Mend:__init__/4 Missing:__init__/4 demands/3 "
                 "general_units/3 least_clash/3 well_united/4 mends/2 missing/2",
    "worth": "Refuter:__init__/5 NoResult:__init__/4 Apart:__init__/4 weights_of/1 covariant/3 result_of/2 refuter/3 "
             "no_result/2 rewritten/1 apart/2",
    "hanging": "Zero:__init__/2 Hangs:__init__/5 hangs/2 quotient_rules/2 moving_rule/3 whole_share/1",
    "groups": "Groups:__init__/4 groups_of/1 in_groups/2 base_sets/2 bar_of/2 by_base/2 groups_within/2",
    "systems": "System:__init__/3 System:solved_at/2 Scalings:__init__/3 Reduced:__init__/4 Recurrence:__init__/3 "
               "Steps:__init__/5 scalings/1 reduced/1 carried_down/2 carried_up/3 weights_of_steps/1 run/3 "
               "reduced_recurrence/1",
    "ones": "Tied:__init__/2 Parting:__init__/3 Barred:__init__/4 together/2 called_one/2 alike_units/2 put_back/4",
    "models": "Carried:__init__/3 Gap:__init__/2 carried/2",
    "records": "Records:__init__/4 Records:settled/2 Contradiction:__init__/4 Settled:__init__/4 Open:__init__/3 "
               "Fitting:__init__/3 NoUnits:__init__/4 plan/2 result_units/2",
    "fits": "Unpowered:__init__/3 power_rule/1",
    "desk": "Desk:__init__/2 Desk:put/2 Desk:edit/4 Desk:drop/2 Desk:rename/3 Desk:keep/2 Desk:release/2 "
            "Desk:attempt/2 Desk:trial/2 Desk:undo/1 Desk:redo/1 Desk:lines/1 Desk:item_names/1 Desk:promises/1 "
            "Desk:get_units/2 Desk:get_formulas/2 Desk:get_record/2 Desk:get_sizes/2 Desk:kept/2 Desk:broken/1",
    "bases": "Powers:__init__/3 NoPowers:__init__/3 coprime_base/1 relations/1 as_powers/3",
    "units": "Units:exponents_of/2 Units:size_of/2 Units:written/2 Units:__init__/2",
}


def files():
    """The pairs (name, text) of the files of the package."""
    found = []
    for folder, _, names in os.walk(PACKAGE):
        for name in sorted(names):
            if "__pycache__" not in folder:
                with open(os.path.join(folder, name), encoding="utf-8") as file:
                    found.append((name, file.read()))
    return found


def trees():
    """The triples (name, tree, nodes) of the files of the package."""
    parsed = [(name, ast.parse(text)) for name, text in files()]
    return [(name, tree, list(ast.walk(tree))) for name, tree in parsed]


class Files(unittest.TestCase):
    def test_files_and_sizes(self):
        for name, text in files():
            self.assertTrue(name.endswith(".py"), name)
            self.assertLessEqual(text.count("\n"), 399, name)
            self.assertTrue(all(" " <= sign <= "~" or sign == "\n" for sign in text), name)
            for line in text.split("\n"):
                self.assertLessEqual(len(line), 120, (name, line))

    def test_functions_are_short(self):
        for name, _, nodes in trees():
            for node in nodes:
                if isinstance(node, ast.FunctionDef):
                    self.assertLessEqual(node.end_lineno - node.lineno + 1, 40, (name, node.name))
                    self.assertEqual(node.decorator_list, [])

    def test_module_level(self):
        for name, tree, _ in trees():
            for at, node in enumerate(tree.body):
                plain = isinstance(node, (ast.ImportFrom, ast.FunctionDef, ast.ClassDef))
                constant = isinstance(node, ast.Assign) and isinstance(ast.literal_eval(node.value), (int, str, tuple, dict))
                self.assertTrue(plain or constant or (at == 0 and isinstance(node, ast.Expr)), (name, node.lineno))


class Names(unittest.TestCase):
    def test_imports(self):
        for name, tree, nodes in trees():
            used = [node.id for node in nodes if isinstance(node, ast.Name)]
            for node in nodes:
                self.assertNotIsInstance(node, ast.Import, name)
                if isinstance(node, ast.ImportFrom):
                    self.assertIn(node, tree.body)
                    for part in node.names:
                        self.check_import(node.module, part)
                        self.assertIn(part.name, used, (name, "not used"))

    def check_import(self, module, part):
        self.assertIsNone(part.asname)
        if module in LIBRARY:
            self.assertIn(part.name, LIBRARY[module])
        else:
            self.assertTrue(module.startswith("allscales."))
            defined = [node.name for node in self.tree_of(module).body if hasattr(node, "name")]
            defined += [node.targets[0].id for node in self.tree_of(module).body if isinstance(node, ast.Assign)]
            self.assertIn(part.name, defined)

    def tree_of(self, module):
        with open(os.path.join(ROOT, *module.split(".")) + ".py", encoding="utf-8") as file:
            return ast.parse(file.read())

    def test_no_circle_of_imports(self):
        needs = {name[:-3]: [node.module[10:] for node in tree.body if isinstance(node, ast.ImportFrom)
                             and node.module.startswith("allscales.")] for name, tree, _ in trees()}
        while needs:
            free = [name for name in needs if not [other for other in needs[name] if other in needs]]
            self.assertTrue(free, needs)
            needs = {name: needs[name] for name in needs if name not in free}

    def test_names_bound(self):
        for name, tree, nodes in trees():
            top = [node.name for node in tree.body if isinstance(node, ast.ClassDef)]
            top += [part.name for node in tree.body if isinstance(node, ast.ImportFrom) for part in node.names]
            bound = [node.arg for node in nodes if isinstance(node, ast.arg)]
            bound += [node.id for node in nodes if isinstance(node, ast.Name) and isinstance(node.ctx, ast.Store)]
            functions = [node.name for node in nodes if isinstance(node, ast.FunctionDef)]
            for word in bound + functions:
                self.assertNotIn(word, BARRED + BARRED_WORDS + BUILTINS, name)
            for word in bound:
                self.assertNotIn(word, top, name)

    def test_attributes(self):
        for name, _, nodes in trees():
            methods = [part.name for node in nodes if isinstance(node, ast.ClassDef) for part in node.body
                       if isinstance(part, ast.FunctionDef)]
            for node in nodes:
                if isinstance(node, ast.Attribute):
                    self.assertFalse(node.attr.startswith("__") and node.attr != "__init__", name)
                    if isinstance(node.ctx, ast.Store):
                        self.assertNotIn(node.attr, NO_ATTRIBUTES + methods, name)
            for method in methods:
                self.assertTrue(not method.startswith("__") or method in OPERATORS, method)

    def test_builtins_and_words(self):
        for name, tree, nodes in trees():
            bound = [node.name for node in tree.body if hasattr(node, "name")]
            bound += [part.name for node in tree.body if isinstance(node, ast.ImportFrom) for part in node.names]
            bound += [node.arg for node in nodes if isinstance(node, ast.arg)]
            bound += [node.id for node in nodes if isinstance(node, ast.Name) and isinstance(node.ctx, ast.Store)]
            bound += [node.name for node in nodes if isinstance(node, ast.ExceptHandler) and node.name is not None]
            for node in nodes:
                if isinstance(node, ast.Name):
                    self.assertIn(node.id, bound + BUILTINS, name)
                    self.assertNotIn(node.id, BARRED_WORDS)


class Statements(unittest.TestCase):
    def test_plain_nodes(self):
        for name, _, nodes in trees():
            for node in nodes:
                self.assertNotIsInstance(node, NODES, name)
                if isinstance(node, ast.Constant):
                    self.assertNotIsInstance(node.value, (float, complex), name)
                    self.assertFalse(isinstance(node.value, str) and "%" in node.value, name)
                if isinstance(node, ast.BinOp) and isinstance(node.op, ast.Pow):
                    self.assertTrue(isinstance(node.right, ast.Constant) and 0 <= node.right.value <= 64, name)
                if isinstance(node, ast.AugAssign):
                    self.assertIsInstance(node.value, ast.Constant, (name, node.lineno))
                    target = node.target.value if isinstance(node.target, ast.Attribute) else node.target
                    self.assertIsInstance(target, ast.Name, (name, node.lineno))
                if isinstance(node, ast.Compare) and isinstance(node.ops[0], (ast.Is, ast.IsNot)):
                    self.assertIn(node.comparators[0].value, (None, True, False))

    def test_calls(self):
        for name, _, nodes in trees():
            for node in nodes:
                if isinstance(node, ast.Call) and isinstance(node.func, ast.Name) and node.func.id in BUILTINS:
                    self.assertEqual(node.keywords, [], (name, node.lineno))
                if isinstance(node, ast.Call) and isinstance(node.func, ast.Name) and node.func.id == "set":
                    inside = [call for call in nodes if isinstance(call, ast.Call) and node in call.args]
                    self.assertIn(inside[0].func.id, ("sorted", "len"), (name, node.lineno))

    def test_errors_are_raised_by_name(self):
        for name, _, nodes in trees():
            for node in nodes:
                if isinstance(node, ast.Raise):
                    self.assertIsInstance(node.exc, ast.Call, (name, node.lineno))
                    self.assertIsInstance(node.exc.func, ast.Name, (name, node.lineno))
                if isinstance(node, ast.ExceptHandler):
                    caught = node.type.elts if isinstance(node.type, ast.Tuple) else [node.type]
                    for error in caught:
                        self.assertNotIn(error.id, BUILTINS + ["Exception", "TypeError", "KeyError"])


    def test_finally_only_assigns(self):
        for name, _, nodes in trees():
            for node in nodes:
                if isinstance(node, ast.Try):
                    for row in node.finalbody:
                        self.assertIsInstance(row, ast.Assign, (name, row.lineno))
                        plain = (ast.Tuple, ast.Name, ast.Attribute, ast.expr_context)
                        inside = [part for side in row.targets + [row.value] for part in ast.walk(side)]
                        self.assertTrue(all([isinstance(part, plain) for part in inside]), (name, row.lineno))


class Interface(unittest.TestCase):
    def test_all_is_defined_in_its_file(self):
        for module, words in INTERFACE.items():
            place = importlib.import_module("allscales." + module)
            for word in words.split():
                name, _, many = word.partition("/")
                owner, _, method = name.partition(":")
                thing = getattr(place, owner)
                self.assertEqual(thing.__module__, "allscales." + module, name)
                if method:
                    thing = vars(thing)[method]
                if many:
                    self.assertEqual(thing.__code__.co_argcount, int(many), name)


if __name__ == "__main__":
    unittest.main()
