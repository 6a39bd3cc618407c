"""The errors of the package. Each keeps its fields just as they were given."""


class ScaleError(ValueError):
    """What all errors of the package derive from."""


class BadText(ScaleError):
    """A text is wrong at this line and column; both are 0 for a value that is no text."""

    def __init__(self, line, column):
        self.line = line
        self.column = column


class BadNumber(ScaleError):
    """A value is not of the kind that is asked for."""

    def __init__(self, what, number):
        self.what = what
        self.number = number


class BadName(ScaleError):
    """A value that should be a name is none."""

    def __init__(self, name):
        self.name = name


class BadMatrix(ScaleError):
    """A value that should be a matrix, or fit to one, does not."""

    def __init__(self, what):
        self.what = what


class Unlike(ScaleError):
    """Two exponents that should be alike are not."""

    def __init__(self, place, one, other):
        self.place = place
        self.one = one
        self.other = other


class ByZero(ScaleError):
    """A division by 0."""

    def __init__(self, place):
        self.place = place


class NotPower(ScaleError):
    """A power that is not."""

    def __init__(self, place):
        self.place = place


class HasIf(ScaleError):
    """A formula has an if where none may be."""

    def __init__(self, name):
        self.name = name


class NoUnit(ScaleError):
    """There is no unit of this name."""

    def __init__(self, name):
        self.name = name


class NoName(ScaleError):
    """There is nothing of this name."""

    def __init__(self, name):
        self.name = name


class TakenName(ScaleError):
    """A name that should be new is taken, or is still needed."""

    def __init__(self, name):
        self.name = name


class TooDeep(ScaleError):
    """More is open at a place than may be."""

    def __init__(self, limit):
        self.limit = limit


class TooMany(ScaleError):
    """There are more results than may be."""

    def __init__(self, what, many, limit):
        self.what = what
        self.many = many
        self.limit = limit


class TooLarge(ScaleError):
    """A number is larger than may be."""

    def __init__(self, what, number, limit):
        self.what = what
        self.number = number
        self.limit = limit


class NotWhole(ScaleError):
    """What should be whole is not."""

    def __init__(self, what):
        self.what = what


class Contradicted(ScaleError):
    """Two measurements contradict each other."""

    def __init__(self, first, second):
        self.first = first
        self.second = second


class NotKept(ScaleError):
    """A promise is not kept."""

    def __init__(self, promise, witness):
        self.promise = promise
        self.witness = witness


class NothingToUndo(ScaleError):
    """There is no edit to be taken back."""


class NothingToRedo(ScaleError):
    """There is no edit to be done again."""
