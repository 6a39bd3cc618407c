"""Formulas as rows of steps: each step takes values from the end of a list and puts its own there."""


class Step:
    """One step of working a formula out, with its place.

    Steps of these kinds stand for a part of the expression, which goes from the column first to
    the column last; they stand behind those of the parts that it is made of:
    - "number": fact is its ratio, measured in its unit words, if it has any;
    - "letter": fact is the index of the parameter;
    - "+", "-", "*", "/", "neg"; "power": fact is the exponent, a ratio;
    - "call": fact is the called formula;
    - "if": it stands behind both branches.
    Two more kinds stand for no part:
    - "less" stands behind both sides of a comparison: if it does not hold, the steps go on at the index fact;
    - "skip" stands behind the first branch: the steps go on at the index fact.
    A told unit, of a number, is the pair of its exponents and the column of its sign [, otherwise None.
    """

    def __init__(self, kind, place, fact, first, last):
        self.kind = kind
        self.place = place
        self.fact = fact
        self.first = first
        self.last = last
        self.unit = None

    def is_part(self):
        """Whether the step stands for a part of the expression."""
        return self.kind not in ("less", "skip")


class Letter:
    """A parameter, or the result, of a formula: its name, its place, and its told unit as in a Step."""

    def __init__(self, name, place, unit):
        self.name = name
        self.place = place
        self.unit = unit


class Formula:
    """A formula: its parameters, its result, and the steps of its expression."""

    def __init__(self, letters, result, steps):
        self.name = result.name
        self.place = result.place
        self.letters = letters
        self.result = result
        self.steps = steps

    def told_letters(self):
        """The parameters and behind them the result."""
        return self.letters + [self.result]

    def calls(self):
        """The formulas that the expression names itself, each as often as it does."""
        return [step.fact for step in self.steps if step.kind == "call"]

    def has_if(self):
        """Whether the expression has an if."""
        return any([step.kind == "if" for step in self.steps])
