"""What the methods of books do (points 42 and 43)."""

from classhouse.coders import MARK
from classhouse.errors import BadName, BadValues, BadWord, NotNumbers, TooMany
from classhouse.laying import laid_classes
from classhouse.lookup import is_class, nearest, nearest_method
from classhouse.machine import Machine, do_step, does_value_fit
from classhouse.trees import check_book
from classhouse.words import is_number, is_tuple, is_word

MOST_TREES = 300
MOST_BODIES = 20


class Worker(Machine):
    """A machine for marked codes: it counts what is begun, and has room for all values."""

    def __init__(self, classes):
        super().__init__(classes)
        self.counted = 0

    def lay(self, value):
        """Pushes a value."""
        self.stack.append(value)

    def do_next(self):
        """Does the next step, or counts it if it is a mark."""
        if self.method()[3][self.step] != MARK:
            do_step(self)
        elif self.counted == MOST_TREES:
            raise TooMany(MOST_TREES)
        else:
            self.counted += 1
            self.step += 1
        if len(self.below) == MOST_BODIES:
            raise TooMany(MOST_BODIES)


def worked_out(classes, name, word, values):
    """The pair (end, prints) of a call by marked classes."""
    worker = Worker(classes)
    upper, place = nearest(classes, name, word)
    worker.go_into(upper, place, (worker.make_thing(name), *values))
    while worker.end is None:
        worker.do_next()
    # Where it goes wrong hangs on the marks, so it is not told.
    end = ("wrong",) if worker.end[0] == "wrong" else worker.end
    return end, tuple(worker.printed)


def ins_of(book, name, word):
    """The ins of the method of a word that is nearest in a class of a book."""
    check_book(book)
    if name == "top" or not is_class(book.classes, name):
        raise BadName("no class of the book")
    if not is_word(word) or nearest(book.classes, name, word) is None:
        raise BadWord("no word of which a method is seen")
    return nearest_method(book.classes, name, word)[1]


def is_value(value, kind):
    """Tells whether any value is a number or None that fits a kind."""
    return (value is None or is_number(value, 15)) and does_value_fit((), (), value, kind)


def meaning(book, name, word, values):
    """The pair (end, prints) of a call of a new thing of a class by a word with values."""
    ins = ins_of(book, name, word)
    if not is_tuple(values, len(ins), len(ins)) or not all([is_value(*pair) for pair in zip(values, ins)]):
        raise BadValues("the values do not go with the method")
    return worked_out(laid_classes(book.classes, True), name, word, values)


def all_values(many):
    """The ascending list of all tuples of so many numbers."""
    rows = [()]
    for _ in range(many):
        rows = [(*row, number) for row in rows for number in range(16)]
    return rows


def all_meanings(book, name, word):
    """The ascending list of the tuples (values, prints, end) of all values of a method that takes numbers alone."""
    ins = ins_of(book, name, word)
    if ins not in ((), ("num",), ("num", "num")):
        raise NotNumbers("a method that takes others than numbers, or more than two")
    classes = laid_classes(book.classes, True)
    rows = []
    for values in all_values(len(ins)):
        try:
            end, printed = worked_out(classes, name, word, values)
            rows.append((values, printed, end))
        except TooMany:
            rows.append((values, (), "many"))
    return rows
