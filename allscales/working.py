"""Working formulas out, step by step, with amounts or with quotients in the place of the parameters."""

from allscales.amounts import Amount
from allscales.errors import ByZero, NotPower, Unlike
from allscales.quotients import is_nothing, number_of
from allscales.ratios import ratio_root


class AmountRules:
    """How steps are worked out with amounts; width is the number of base units."""

    def __init__(self, width):
        self.width = width

    def number_value(self, step):
        """The amount of a number."""
        exponents = (0,) * self.width if step.unit is None else step.unit[0]
        return Amount(exponents, step.fact)

    def check_place(self, place, one, other):
        """Raises the error that is due unless two exponents are alike."""
        if one != other:
            raise Unlike(place, one, other)

    def is_below(self, place, left, right):
        """Whether a comparison holds."""
        self.check_place(place, left.exponents, right.exponents)
        return left.less(right)

    def operated(self, step, left, right):
        """The amount that an operation makes of two."""
        if step.kind in ("+", "-"):
            self.check_place(step.place, left.exponents, right.exponents)
        return value_of_two(step, left, right, right.number[0] == 0)

    def raised(self, step, value):
        """The power of an amount."""
        top, bottom = step.fact
        if top < 0 and value.number[0] == 0:
            raise ByZero(step.place)
        if bottom == 1:
            return value.power(top)
        root = None
        if value.number[0] >= 0 and all([item % bottom == 0 for item in value.exponents]):
            # As top and bottom share no factor, the power has the root exactly if the amount has it.
            root = ratio_root(value.number, bottom)
        if root is None:
            raise NotPower(step.place)
        return Amount(tuple([item // bottom for item in value.exponents]), root).power(top)

    def check_given(self, formula, given):
        """Raises the error that is due unless the arguments of a formula have its told units."""
        for letter, argument in zip(formula.letters, given):
            self.check_unit(letter, argument)

    def check_unit(self, letter, amount):
        """Raises the error that is due unless an amount has the told unit of a parameter or a result."""
        if letter.unit is not None:
            self.check_place(letter.place, letter.unit[0], amount.exponents)


class QuotientRules:
    """How steps are worked out with quotients in so many letters; told units mean nothing."""

    def __init__(self, size):
        self.size = size

    def number_value(self, step):
        """The quotient of a number."""
        return number_of(self.size, step.fact)

    def operated(self, step, left, right):
        """The quotient that an operation makes of two."""
        return value_of_two(step, left, right, is_nothing(right))

    def raised(self, step, value):
        """The power of a quotient."""
        top, bottom = step.fact
        if bottom != 1:
            raise NotPower(step.place)
        if top < 0 and is_nothing(value):
            raise ByZero(step.place)
        return value.power(top)

    def check_given(self, formula, given):
        """Lets all arguments pass."""

    def check_unit(self, letter, value):
        """Lets all results pass."""


class Frame:
    """A formula that is worked out for arguments, and the index of the step that comes next."""

    def __init__(self, formula, given):
        self.formula = formula
        self.given = given
        self.coming = 0


def value_of_two(step, left, right, is_zero):
    """What an operation makes of two values; is_zero tells whether the right one is 0."""
    if step.kind == "+":
        return left + right
    if step.kind == "-":
        return left - right
    if step.kind == "*":
        return left * right
    if is_zero:
        raise ByZero(step.place)
    return left.over(right)


def worked_out(formula, given, rules):
    """The value of a formula for arguments, by rules."""
    # Calls have frames of their own here, so that calls within calls need no recursion.
    values = []
    rules.check_given(formula, given)
    frames = [Frame(formula, given)]
    while frames:
        frame = frames[-1]
        if frame.coming == len(frame.formula.steps):
            frames.pop()
            rules.check_unit(frame.formula.result, values[-1])
        else:
            step = frame.formula.steps[frame.coming]
            frame.coming += 1
            if step.kind == "call":
                start = len(values) - len(step.fact.letters)
                arguments = values[start:]
                values = values[:start]
                rules.check_given(step.fact, arguments)
                frames.append(Frame(step.fact, arguments))
            elif step.kind == "letter":
                values.append(frame.given[step.fact])
            else:
                take_step(frame, step, values, rules)
    return values[0]


def take_step(frame, step, values, rules):
    """Takes a step that is no call and no parameter."""
    if step.kind == "number":
        values.append(rules.number_value(step))
    elif step.kind == "neg":
        values.append(-values.pop())
    elif step.kind == "power":
        values.append(rules.raised(step, values.pop()))
    elif step.kind == "skip":
        frame.coming = step.fact
    elif step.kind == "less":
        right = values.pop()
        if not rules.is_below(step.place, values.pop(), right):
            frame.coming = step.fact
    elif step.kind != "if":
        right = values.pop()
        values.append(rules.operated(step, values.pop(), right))
