"""Books as houses (point 44)."""

from classhouse.errors import BadPlace, TooLarge
from classhouse.houses import House
from classhouse.laying import laid_classes, laid_method
from classhouse.treeforms import bodies_in, trees_in
from classhouse.trees import check_book
from classhouse.words import is_number

MOST_STEPS = 20
MOST_HANDLERS = 4
MOST_VALUES = 6


def method_told(book, index, place):
    """The method of a book at a place of the class at an index."""
    check_book(book)
    if not is_number(index, len(book.classes) - 1) or not is_number(place, len(book.classes[index][3]) - 1):
        raise BadPlace("no method of the book")
    return book.classes[index][3][place]


def code_size(book, index, place):
    """How many steps a method needs."""
    return len(laid_method(method_told(book, index, place), False).code)


def handler_count(book, index, place):
    """How many handlers a method needs."""
    return len(laid_method(method_told(book, index, place), False).rows)


def needs_step(body):
    """Tells whether a body needs a step."""
    return any([statement[0] != "try" or needs_step(statement[1]) for statement in body])


def row_need(trees):
    """How many values stand at most while expressions are worked out one behind the other."""
    return max([ahead + max(1, row_need(trees_in(tree))) for ahead, tree in enumerate(trees)], default=0)


def body_need(body):
    """How many values stand at most while a body is done."""
    return max([statement_need(statement) for statement in body], default=0)


def statement_need(statement):
    """How many values stand at most while a statement is done."""
    if statement[0] == "try" and not needs_step(statement[1]):
        return 0
    return max([row_need(trees_in(statement)), *[body_need(body) for body in bodies_in(statement)]])


def stack_need(book, index, place):
    """How many values stand on the stack at most while a method is done."""
    # What a method gives or throws stands there alone at its end, as does a thing that is caught.
    return max(1, body_need(method_told(book, index, place)[3]))


def compiled(book):
    """A house in which each method does the same as in a book."""
    check_book(book)
    for index, row in enumerate(book.classes):
        for place in range(len(row[3])):
            if code_size(book, index, place) > MOST_STEPS or handler_count(book, index, place) > MOST_HANDLERS:
                raise TooLarge(index, place)
            if stack_need(book, index, place) > MOST_VALUES:
                raise TooLarge(index, place)
    return House(laid_classes(book.classes, False))
