"""Texts of formulas, and working them out."""

from allscales.errors import BadName, BadNumber, BadText, HasIf, NoName
from allscales.parsing import read_formula
from allscales.quotients import letter_of
from allscales.working import AmountRules, QuotientRules, worked_out


class Formulas:
    """The formulas of a text; table has them by their names."""

    def __init__(self, units, text):
        if not isinstance(text, str):
            raise BadText(0, 0)
        table = {}
        for number, line in enumerate(text.split("\n"), 1):
            formula = read_formula(line, number, table, units)
            if formula is not None:
                table[formula.name] = formula
        self.units = units
        self.text = text
        self.names = tuple(list(table))
        self.table = table

    def params(self, name):
        """The names of the parameters of a formula."""
        return tuple([letter.name for letter in formula_of(self, name).letters])

    def told_units(self, name):
        """The exponents of the told units of the parameters and of the result, None where none is told."""
        units = [letter.unit for letter in formula_of(self, name).told_letters()]
        return tuple([None if unit is None else unit[0] for unit in units])

    def work(self, name, arguments):
        """The amount that a formula is for some arguments."""
        formula = formula_of(self, name)
        if len(arguments) != len(formula.letters):
            raise BadNumber("arguments", len(arguments))
        return worked_out(formula, list(arguments), AmountRules(len(self.units.base)))

    def quotient(self, name):
        """The quotient that a formula is if units are left aside."""
        formula = formula_of(self, name)
        for needed in needed_formulas(self, formula):
            if needed.has_if():
                raise HasIf(needed.name)
        size = len(formula.letters)
        return worked_out(formula, [letter_of(size, j) for j in range(size)], QuotientRules(size))


def formula_of(formulas, name):
    """The formula of a name."""
    if not isinstance(name, str):
        raise BadName(name)
    if name not in formulas.table:
        raise NoName(name)
    return formulas.table[name]


def needed_formulas(formulas, formula):
    """The formulas that a formula names, directly or by others, in the order of the text, and itself behind them."""
    needed = {formula.name: True}
    for name in formulas.names[::-1]:
        if name in needed:
            for called in formulas.table[name].calls():
                needed[called.name] = True
    return [formulas.table[name] for name in formulas.names if name in needed]
