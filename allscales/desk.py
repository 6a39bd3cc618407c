"""A desk for units, formulas, records and sizes, and for promises that they keep."""

from allscales.errors import BadName, BadNumber, BadText, NoName, NothingToRedo, NothingToUndo, NotKept, TakenName
from allscales.exact import is_whole
from allscales.items import Item, read_items, told_items
from allscales.verdicts import verdict
from allscales.words import is_name, lines_of


class Shelf:
    """What a desk has at a time: the items, and the promises that are made, both in order. It never changes."""

    def __init__(self, stock, made):
        self.stock = stock
        self.made = made


class Desk:
    """Items and promises that are edited. past and future are the shelves to which undo and redo lead.

    depth tells in how many attempts and trials an edit stands; each of these has a past of its own.
    """

    def __init__(self, text=""):
        check_text(text)
        self.shelf = with_file(Shelf([], ()), text)
        self.past = []
        self.future = []
        self.depth = 0

    def put(self, text):
        """Puts the items of a file in the places of those with their names, or behind the last one."""
        check_text(text)
        self.change(with_file(self.shelf, text))

    def edit(self, name, number, text):
        """Puts the lines of a text in the place of a line of an item."""
        check_name(name)
        check_text(text)
        item = item_called(self.shelf, name)
        if not is_whole(number) or number < 1 or number > len(item.body) + 1:
            raise BadNumber("line", number)
        body = item.body[:number - 1] + lines_of(text) + item.body[number:]
        edited = Item(item.kind, name, item.on, body, None)
        stock = [edited if other.name == name else other for other in self.shelf.stock]
        numbers = {other.name: 0 for other in stock if name in (other.name, other.on)}
        self.change(Shelf(read_items(stock, numbers), self.shelf.made))

    def drop(self, name):
        """Takes an item away, and the promises about it."""
        check_name(name)
        item_called(self.shelf, name)
        for other in self.shelf.stock:
            if other.on == name:
                raise TakenName(other.name)
        stock = [other for other in self.shelf.stock if other.name != name]
        self.change(Shelf(stock, tuple([text for text in self.shelf.made if subject_of(text) != name])))

    def rename(self, name, new):
        """Calls an item anew, also in the head lines of items on it and in promises."""
        if not isinstance(new, str) or not is_name(new):
            raise BadName(new)
        check_name(name)
        item_called(self.shelf, name)
        if new in self.item_names():
            raise TakenName(new)
        stock = [renamed(item, name, new) for item in self.shelf.stock]
        made = [new + text[len(name):] if subject_of(text) == name else text for text in self.shelf.made]
        self.change(Shelf(stock, tuple(made)))

    def keep(self, promise):
        """Makes a promise."""
        verdict(self.shelf.stock, promise)
        made = self.shelf.made
        self.change(Shelf(self.shelf.stock, made if promise in made else made + (promise,)))

    def release(self, promise):
        """Takes a promise away."""
        check_text(promise)
        if promise not in self.shelf.made:
            raise NoName(promise)
        self.change(Shelf(self.shelf.stock, tuple([text for text in self.shelf.made if text != promise])))

    def change(self, shelf):
        """Makes an edit, outside of attempts and trials only if all promises are kept behind it."""
        if self.depth == 0:
            check_promises(shelf)
        self.past.append(self.shelf)
        self.future = []
        self.shelf = shelf

    def attempt(self, action):
        """Calls a function with the desk; what it edits is one edit, or none if an error is raised."""
        shelf, past, future, depth = self.shelf, self.past, self.future, self.depth
        reached = shelf
        self.past, self.future, self.depth = [], [], depth + 1
        try:
            result = action(self)
            if depth == 0:
                check_promises(self.shelf)
            reached = self.shelf
        finally:
            self.shelf, self.past, self.future, self.depth = reached, past, future, depth
        self.past.append(shelf)
        self.future = []
        return result

    def trial(self, action):
        """Calls a function with the desk, which behind it is as it was."""
        shelf, past, future, depth = self.shelf, self.past, self.future, self.depth
        self.past, self.future, self.depth = [], [], depth + 1
        try:
            return action(self)
        finally:
            self.shelf, self.past, self.future, self.depth = shelf, past, future, depth

    def undo(self):
        """Takes the last edit back."""
        if self.past == []:
            raise NothingToUndo()
        self.future.append(self.shelf)
        self.shelf = self.past.pop()

    def redo(self):
        """Does the edit again that has been taken back last."""
        if self.future == []:
            raise NothingToRedo()
        self.past.append(self.shelf)
        self.shelf = self.future.pop()

    def lines(self):
        """The text of the file of all items."""
        return "".join([item.head() + "\n" + item.body_text() for item in self.shelf.stock])

    def item_names(self):
        """The names of all items."""
        return tuple([item.name for item in self.shelf.stock])

    def promises(self):
        """The promises that are made."""
        return self.shelf.made

    def get_units(self, name):
        """The Units of an item."""
        return content_called(self.shelf, name, "units")

    def get_formulas(self, name):
        """The Formulas of an item."""
        return content_called(self.shelf, name, "formulas")

    def get_record(self, name):
        """The Records of an item."""
        return content_called(self.shelf, name, "record").record

    def get_sizes(self, name):
        """The rows and the ratios of the equations of an item."""
        equations = content_called(self.shelf, name, "sizes")
        return (equations.rows, equations.ratios)

    def kept(self, promise):
        """Whether a promise is kept now, and what shows it if it is not."""
        return verdict(self.shelf.stock, promise)

    def broken(self):
        """The pairs (promise, witness) of all promises that are not kept now."""
        found = [(text, verdict(self.shelf.stock, text)) for text in self.shelf.made]
        return tuple([(text, told[1]) for text, told in found if not told[0]])


def check_name(name):
    """Raises the error that is due unless a name is a string."""
    if not isinstance(name, str):
        raise BadName(name)


def check_text(text):
    """Raises the error that is due unless a text is a string."""
    if not isinstance(text, str):
        raise BadText(0, 0)


def check_promises(shelf):
    """Raises the error of the first promise that can not be asked or is not kept."""
    for text in shelf.made:
        is_kept, witness = verdict(shelf.stock, text)
        if not is_kept:
            raise NotKept(text, witness)


def with_file(shelf, text):
    """The shelf with the items of a file; items on units that come with it are read again."""
    items, numbers = told_items(text)
    told = {item.name: item for item in items}
    stock = [told.get(item.name, item) for item in shelf.stock]
    names = [item.name for item in stock]
    stock.extend([item for item in items if item.name not in names])
    again = {item.name: 0 for item in stock if item.on in told}
    again.update(numbers)
    return Shelf(read_items(stock, again), shelf.made)


def item_called(shelf, name):
    """The item of a name, or the error that is due if there is none."""
    for item in shelf.stock:
        if item.name == name:
            return item
    raise NoName(name)


def content_called(shelf, name, kind):
    """What the item of a name tells, or the error that is due unless there is one of this kind."""
    check_name(name)
    for item in shelf.stock:
        if item.name == name and item.kind == kind:
            return item.content
    raise NoName(name)


def renamed(item, name, new):
    """An item that calls anew what has been called name."""
    if name not in (item.name, item.on):
        return item
    return Item(item.kind, new if item.name == name else item.name, new if item.on == name else item.on,
                item.body, item.content)


def subject_of(promise):
    """The name of the item that a promise is about."""
    return promise.split(" ")[0].partition(".")[0]
