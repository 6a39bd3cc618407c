"""Whether items keep promises, and what shows that they do not."""

from allscales.bodies import in_base_units, row_of_words
from allscales.conversions import Ring, size_settled, sizes
from allscales.errors import BadNumber, NoName
from allscales.hanging import Zero, hangs
from allscales.inference import general_units, well_united
from allscales.promises import KINDS, read_promise
from allscales.quotients import is_nothing
from allscales.records import Open, exact_value
from allscales.words import powers_of
from allscales.worth import refuter


def verdict(items, text):
    """The pair (kept, witness) of a promise to some items, or the error that is due."""
    promise = read_promise(text)
    found = [item for item in items if item.name == promise.name and item.kind == KINDS[promise.word]]
    if found == []:
        raise NoName(promise.name)
    item = found[0]
    # What an item tells never changes, so each promise is looked at once for it.
    if text not in item.verdicts:
        item.verdicts[text] = verdict_by(promise, item.content)
    return item.verdicts[text]


def verdict_by(promise, content):
    """The pair (kept, witness) of a promise to the item that tells content."""
    witness = None
    if KINDS[promise.word] == "formulas":
        witness = formula_witness(promise, content)
    elif promise.word == "letter":
        witness = letter_witness(promise, content)
    elif promise.word == "possible":
        witness = content.record.contradiction
    elif promise.word == "settles":
        witness = settles_witness(promise, content)
    elif promise.word == "holds":
        found = sizes(content.rows, content.ratios)
        witness = found if isinstance(found, Ring) else None
    else:
        witness = sets_witness(promise, content)
    return (witness is None, witness)


def formula_witness(promise, formulas):
    """What shows that a formula does not have the units that are promised, None if it has them."""
    name = promise.formula
    many = len(promise.units) - 1
    # A name that no formula has is found by params.
    if many != len(formulas.params(name)):
        raise BadNumber("units", many)
    exponents = tuple([formulas.units.exponents_of(" ".join(words)) for words in promise.units])
    if promise.word == "text":
        return None if well_united(formulas, name, exponents) else general_units(formulas, name)
    quotient = formulas.quotient(name)
    if is_nothing(quotient):
        raise BadNumber("quotient", 0)
    return refuter(quotient, exponents[:-1], exponents[-1])


def letter_witness(promise, measured):
    """What shows that rules do not hang on a letter in the way that is promised, None if they do."""
    if promise.letter not in measured.names:
        raise NoName(promise.letter)
    found = hangs(measured.record.exponents, measured.record.result)
    if isinstance(found, Zero):
        return found
    at = measured.names.index(promise.letter)
    told = (found.kinds[at], found.powers[at])
    if promise.kind == "power":
        return None if told == ("fixed", promise.ratios[0]) else told
    return None if told[0] == promise.kind else told


def settles_witness(promise, measured):
    """What shows that a record does not settle the value that is promised, None if it does."""
    many = len(promise.ratios) - 1
    if many != len(measured.names):
        raise BadNumber("inputs", many)
    for ratio in promise.ratios[:-1]:
        check_above(ratio)
    if measured.record.contradiction is not None:
        return measured.record.contradiction
    inputs, value = in_base_units(promise.ratios, measured.sizes)
    found = measured.record.settled(inputs)
    if isinstance(found, Open):
        return found
    return None if found.value == exact_value(value) else found


def sets_witness(promise, equations):
    """What shows that equations do not settle a product with the value that is promised, None if they do."""
    for name in powers_of(promise.words):
        if name not in equations.names:
            raise NoName(name)
    value = promise.ratios[0]
    check_above(value)
    row = row_of_words(promise.words, equations.names)
    found = size_settled(equations.rows, equations.ratios, row)
    return None if found == exact_value(value) else found


def check_above(ratio):
    """Raises the error that is due unless a ratio is above 0."""
    if ratio[0] <= 0:
        raise BadNumber("ratio", ratio)
