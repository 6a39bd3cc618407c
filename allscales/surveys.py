"""Exponents of the parts of a formula, as sums of unknowns, and the equations that they have to fulfill."""

from allscales.exact import as_ratio, ratio_product, ratio_sum

ONE = (1, 1)
MINUS = (-1, 1)


class Form:
    """Exponents that are a sum: multiples tells the multiples of unknowns, told a ratio for each base unit.

    The keys of multiples are the indices of unknowns, and tags: ("part", k) stands for a factor
    that is left out at the part of the step k, ("told", k) for one left out of the told unit of
    the parameter k, or of the result, which is behind the parameters.
    """

    def __init__(self, multiples, told):
        self.multiples = multiples
        self.told = told


class Equation:
    """A demand, with its place: the sum of multiples, as in a Form, has to be told."""

    def __init__(self, place, multiples, told):
        self.place = place
        self.multiples = multiples
        self.told = told

    def multiples_of(self, many):
        """The multiples of so many unknowns, as ratios."""
        return [self.multiples.get(k, (0, 1)) for k in range(many)]


def plus(one, factor, other):
    """The sum of one Form and of another one times a factor."""
    multiples = {key: one.multiples[key] for key in one.multiples}
    for key, many in other.multiples.items():
        multiples[key] = ratio_sum(multiples.get(key, (0, 1)), ratio_product(factor, many))
    return Form(multiples, [ratio_sum(a, ratio_product(factor, b)) for a, b in zip(one.told, other.told)])


class Survey:
    """The unknowns of a formula, and its equations in the order of the demands.

    generals has the units of all formulas that it names, with spots and basis. width tells the base
    units, many the unknowns, result the exponents of the expression. If it is tagged, the forms
    have tags, too.
    """

    def __init__(self, formula, generals, roots, width, tagged):
        self.formula = formula
        self.generals = generals
        self.roots = roots
        self.width = width
        self.tagged = tagged
        self.starts, self.many = unknowns_of(formula, generals, roots)
        self.met = []
        self.equations = []
        self.result = self.expression()
        self.order_equations()

    def nothing(self):
        """The exponents of what has no unit."""
        return Form({}, [(0, 1)] * self.width)

    def from_exponents(self, multiples, exponents):
        """The Form of multiples and of told exponents."""
        return Form(multiples, [as_ratio(item) for item in exponents])

    def demand(self, place, one, other):
        """Puts down that one Form has to be another one."""
        gap = plus(one, MINUS, other)
        self.met.append(Equation(place, gap.multiples, [(-top, bottom) for top, bottom in gap.told]))

    def expression(self):
        """The Form of the whole expression, with all demands in it put down."""
        values = []
        for k, step in enumerate(self.formula.steps):
            if step.kind != "skip":
                form = self.form_at(k, step, values)
                if step.kind != "less":
                    if self.tagged:
                        form = plus(form, ONE, Form({("part", k): ONE}, [(0, 1)] * self.width))
                    values.append(form)
        return values[0]

    def form_at(self, k, step, values):
        """The Form of the step with the index k; it takes those that it is made of from the end of values."""
        if step.kind == "number":
            return self.nothing() if step.unit is None else self.from_exponents({}, step.unit[0])
        if step.kind == "letter":
            return Form({step.fact: ONE}, [(0, 1)] * self.width)
        if step.kind == "neg":
            return values.pop()
        if step.kind == "power":
            return self.power_form(k, step, values.pop())
        if step.kind == "call":
            arguments = [values.pop() for letter in step.fact.letters]
            return self.call_form(k, step, arguments[::-1])
        right = values.pop()
        left = values.pop()
        if step.kind in ("*", "/"):
            return plus(left, ONE if step.kind == "*" else MINUS, right)
        self.demand(step.place, left, right)
        return left

    def power_form(self, k, step, value):
        """The Form of a power of a value."""
        top, bottom = step.fact
        if bottom == 1 or self.roots:
            return plus(self.nothing(), step.fact, value)
        unknown = Form({self.starts[k]: ONE}, [(0, 1)] * self.width)
        # The multiple of the unknown stands first, and that of the value on the other side.
        self.demand(step.place, plus(self.nothing(), (bottom, 1), unknown), plus(self.nothing(), (top, 1), value))
        return unknown

    def call_form(self, k, step, arguments):
        """The Form of the result of a call."""
        general = self.generals[step.fact.name]
        for index, argument in enumerate(arguments):
            self.demand(step.place, argument, self.copied(k, general, index))
        return self.copied(k, general, len(arguments))

    def copied(self, k, general, index):
        """The Form of a parameter, or of the result behind them, in the copy for the call with the index k."""
        multiples = {self.starts[k] + at: as_ratio(row[index]) for at, row in enumerate(general.basis)}
        return self.from_exponents(multiples, general.spots[index])

    def order_equations(self):
        """Puts the equations in order, with those of told units ahead of the others and behind them."""
        letters = self.formula.letters
        for index, letter in enumerate(letters):
            if letter.unit is not None:
                self.equations.append(self.told_equation(letter, Form({index: ONE}, [(0, 1)] * self.width), index))
        columns = sorted([(equation.place[1], at) for at, equation in enumerate(self.met)])
        self.equations.extend([self.met[at] for column, at in columns])
        if self.formula.result.unit is not None:
            self.equations.append(self.told_equation(self.formula.result, self.result, len(letters)))

    def told_equation(self, letter, form, index):
        """The equation that a Form is the told unit of a parameter or of the result."""
        multiples = {key: form.multiples[key] for key in form.multiples}
        if self.tagged:
            multiples[("told", index)] = MINUS
        told = [as_ratio(item) for item in letter.unit[0]]
        return Equation(letter.place, multiples, [ratio_sum(a, (-b[0], b[1])) for a, b in zip(told, form.told)])


def unknowns_of(formula, generals, roots):
    """(starts, many): the index of the first unknown of each step that has some, and the number of all unknowns."""
    many = len(formula.letters)
    starts = {}
    for k in steps_by_column(formula, "call"):
        starts[k] = many
        many = many + len(generals[formula.steps[k].fact.name].basis)
    for k in steps_by_column(formula, "power"):
        if not roots and formula.steps[k].fact[1] > 1:
            starts[k] = many
            many += 1
    return (starts, many)


def steps_by_column(formula, kind):
    """The indices of the steps of a kind, from the left to the right by their places."""
    places = sorted([(step.place[1], k) for k, step in enumerate(formula.steps) if step.kind == kind])
    return [k for column, k in places]
