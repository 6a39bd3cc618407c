"""Units by text: which units the parameters and the result of a formula can have."""

from allscales.echelon import hermite_rows
from allscales.errors import BadMatrix
from allscales.exact import are_integers, as_ratio, as_tuples, is_ratio, ratio_minus
from allscales.formulas import formula_of, needed_formulas
from allscales.solving import answers_for, factor_with, tops_of
from allscales.surveys import Survey


class Demand:
    """An equation between exponents: the sum of row times unknowns has to be exponents."""

    def __init__(self, place, row, exponents):
        self.place = place
        self.row = as_tuples(row)
        self.exponents = as_tuples(exponents)


class General:
    """All units of a formula: spots, for the parameters and the result, plus sums of multiples of the basis."""

    def __init__(self, spots, basis):
        self.spots = as_tuples(spots)
        self.basis = as_tuples(basis)


class Clash:
    """Weights of the demands of a formula that show, in one base unit, that they have no answer."""

    def __init__(self, name, base, weights, places):
        self.name = name
        self.base = base
        self.weights = as_tuples(weights)
        self.places = as_tuples(places)


class Mend:
    """Exponents with which a told unit would let a formula have units."""

    def __init__(self, place, exponents, step):
        self.place = place
        self.exponents = as_tuples(exponents)
        self.step = step


class Missing:
    """Exponents of a factor at a part of an expression that would let a formula have units."""

    def __init__(self, place, exponents, step):
        self.place = place
        self.exponents = as_tuples(exponents)
        self.step = step


def demands(formulas, name, roots=False):
    """The demands of a formula, or the Clash of one that it needs."""
    survey, found = settled(formulas, name, roots)
    if survey.formula.name != name:
        return found
    return tuple([demand_of(survey, equation) for equation in survey.equations])


def demand_of(survey, equation):
    """The Demand of an equation."""
    row = equation.multiples_of(survey.many)
    if survey.roots:
        return Demand(equation.place, row, equation.told)
    return Demand(equation.place, tops_of(row), tops_of(equation.told))


def general_units(formulas, name, roots=False):
    """The General of a formula, or the Clash of the formula at which it clashes."""
    return settled(formulas, name, roots)[1]


def settled(formulas, name, roots):
    """(survey, found): the Survey of the formula at which the named one clashes, or of itself, and its units."""
    width = len(formulas.units.base)
    generals = {}
    for formula in needed_formulas(formulas, formula_of(formulas, name)):
        survey = Survey(formula, generals, roots, width, False)
        found = units_of(survey, formulas.units.base)
        if isinstance(found, Clash):
            break
        generals[formula.name] = found
    return (survey, found)


def units_of(survey, base):
    """The General of a surveyed formula, or its Clash."""
    many = len(survey.equations)
    asked = len(survey.formula.letters) + 1
    answers = answers_for([unknown_row(survey, k) for k in range(survey.many)], many, asked, survey.roots)
    columns = []
    for place, name in enumerate(base):
        right = [equation.told[place] for equation in survey.equations]
        weights = answers.bar_for(right)
        if weights is not None:
            return clash_of(survey, name, range_of(many), weights)
        start = [(0, 1)] * (asked - 1) + [survey.result.told[place]]
        columns.append(answers.spot_for(right, start))
    spots = [[column[at] for column in columns] for at in range(asked)]
    return General(spots, answers.basis_rows())


def unknown_row(survey, unknown):
    """The multiples of an unknown in the equations, then in the exponents of the parameters and of the result."""
    row = [equation.multiples.get(unknown, (0, 1)) for equation in survey.equations]
    row.extend([(1, 1) if index == unknown else (0, 1) for index in range(len(survey.formula.letters))])
    return row + [survey.result.multiples.get(unknown, (0, 1))]


def range_of(many):
    """The indices from 0 below many."""
    return list(range(many))


def clash_of(survey, base, chosen, weights):
    """The Clash with weights for the chosen ones of the equations."""
    wide = [(0, 1)] * len(survey.equations)
    for at, weight in zip(chosen, weights):
        wide[at] = weight
    places = [equation.place for equation, weight in zip(survey.equations, wide) if weight[0] != 0]
    return Clash(survey.formula.name, base, wide, places)


def least_clash(formulas, name, roots=False):
    """None if a formula has units, otherwise a Clash of as few demands as can contradict each other."""
    survey, found = settled(formulas, name, roots)
    if not isinstance(found, Clash):
        return None
    base = formulas.units.base
    chosen = range_of(len(survey.equations))
    place, weights = bar_among(survey, chosen, len(base))
    chosen = weighing(chosen, weights, roots)
    tried = 0
    while tried < len(chosen):
        others = chosen[:tried] + chosen[tried + 1:]
        bar = bar_among(survey, others, len(base))
        # What weighs nothing is left out, too. What has been found to be needed weighs in each bar.
        if bar is None:
            tried += 1
        else:
            chosen = weighing(others, bar[1], roots)
    place, weights = bar_among(survey, chosen, len(base))
    return clash_of(survey, base[place], chosen, weights)


def bar_among(survey, chosen, width):
    """(place of a base unit, weights of the chosen equations) if they have no answer, otherwise None."""
    equations = [survey.equations[at] for at in chosen]
    rows = [[equation.multiples.get(k, (0, 1)) for equation in equations] for k in range(survey.many)]
    answers = answers_for(rows, len(chosen), 0, survey.roots)
    for place in range(width):
        weights = answers.bar_for([equation.told[place] for equation in equations])
        if weights is not None:
            return (place, weights)
    return None


def weighing(chosen, weights, roots):
    """Those of the chosen equations that a bar needs: without roots, integer weights take nothing from it."""
    return [at for at, weight in zip(chosen, weights) if weight[0] != 0 and (roots or weight[1] != 1)]


def well_united(formulas, name, exponents, roots=False):
    """Whether exponents of the parameters and of the result are among the units of a formula."""
    many = len(formula_of(formulas, name).letters) + 1
    width = len(formulas.units.base)
    if not isinstance(exponents, tuple) or len(exponents) != many:
        raise BadMatrix("exponents")
    if not all([is_exponents(item, width, roots) for item in exponents]):
        raise BadMatrix("exponents")
    found = settled(formulas, name, roots)[1]
    if isinstance(found, Clash):
        return False
    basis = [[as_ratio(item) for item in row] for row in found.basis]
    differences = answers_for(basis, 0, many, roots)
    for place in range(width):
        row = [ratio_minus(as_ratio(one[place]), as_ratio(spot[place])) for one, spot in zip(exponents, found.spots)]
        if not differences.belongs(row):
            return False
    return True


def is_exponents(value, width, roots):
    """Whether a value is a tuple of one integer, or one ratio with roots, for each base unit."""
    if not isinstance(value, tuple) or len(value) != width:
        return False
    if roots:
        return all([is_ratio(item) for item in value])
    return are_integers(value)


def clashing_survey(formulas, name):
    """The Survey, with tags, of a formula that clashes, though none that it names does; otherwise None."""
    survey, found = settled(formulas, name, False)
    if not isinstance(found, Clash) or survey.formula.name != name:
        return None
    return Survey(survey.formula, survey.generals, False, survey.width, True)


def mends(formulas, name):
    """The Mends of all told units that can mend a formula."""
    survey = clashing_survey(formulas, name)
    if survey is None:
        return ()
    places = []
    told = {}
    for index, letter in enumerate(survey.formula.told_letters()):
        if letter.unit is not None:
            places.append(letter.unit[1])
            told[letter.unit[1]] = (("told", index), letter.unit[0])
    for k, step in enumerate(survey.formula.steps):
        if step.unit is not None:
            places.append(step.unit[1])
            told[step.unit[1]] = (("part", k), step.unit[0])
    tags = [told[column][0] for column in sorted(places)]
    mended = []
    for column, factor in zip(sorted(places), factors_at(survey, tags)):
        if factor is not None:
            exponents = [a + b for a, b in zip(told[column][1], factor[0])]
            place = (survey.formula.place[0], column)
            mended.append(Mend(place, brought_down(exponents, factor[1]), factor[1]))
    return tuple(mended)


def missing(formulas, name):
    """The Missings of all parts of an expression at which a factor can mend a formula."""
    survey = clashing_survey(formulas, name)
    if survey is None:
        return ()
    steps = survey.formula.steps
    spans = sorted([(step.first, step.last, k) for k, step in enumerate(steps) if step.is_part()])
    found = []
    for span, factor in zip(spans, factors_at(survey, [("part", k) for first, last, k in spans])):
        if factor is not None:
            place = (survey.formula.place[0], span[0], span[1])
            found.append(Missing(place, brought_down(factor[0], factor[1]), factor[1]))
    return tuple(found)


def brought_down(exponents, step):
    """Exponents brought to numbers from 0 below step, if it is not 0."""
    if step == 0:
        return exponents
    return [item % step for item in exponents]


def factors_at(survey, tags):
    """For each tag, the factors of factor_with that give answers where it stands, or None."""
    equations = survey.equations
    rows = [tops_of([equation.multiples.get(k, (0, 1)) for equation in equations]) + [0] for k in range(survey.many)]
    steps = hermite_rows(rows)
    rights = [tops_of([equation.told[place] for equation in equations]) for place in range(survey.width)]
    columns = [tops_of([equation.multiples.get(tag, (0, 1)) for equation in equations]) for tag in tags]
    return [factor_with(steps, column, rights) for column in columns]
