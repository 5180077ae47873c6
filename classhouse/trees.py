"""Books, whose methods are told by trees, and their texts (points 41 and 45)."""

from classhouse.errors import BadBody, NoBook
from classhouse.houses import check_shells
from classhouse.texts import head_line, shell_lines, told
from classhouse.treeforms import TREE_PARTS, bodies_in, is_body, singles_in

MOST_DEEP = 12


def check_pages(classes):
    """Raises the first error of classes that make no book."""
    check_shells(classes, 4)
    # Bodies name fields and methods of whichever class, so all of those are looked at first.
    for index, row in enumerate(classes):
        for place, method in enumerate(row[3]):
            if not is_body(classes, method[3], MOST_DEEP):
                raise BadBody(index, place)


class Book:
    """Classes as in a house, but with bodies in the place of codes; all parts are looked at when it is made."""

    def __init__(self, classes):
        check_pages(classes)
        self._classes = classes

    @property
    def classes(self):
        """The tuple of the classes."""
        return self._classes

    def __eq__(self, other):
        return isinstance(other, Book) and self._classes == other._classes


def check_book(book):
    """Raises NoBook unless a value is a book."""
    if not isinstance(book, Book):
        raise NoBook("no Book")


def tree_words(tree):
    """The list of the words of an expression, or of the line of a statement; a try is told otherwise."""
    words = [tree[0], *singles_in(tree)]
    for part, thing in zip(TREE_PARTS[tree[0]], tree[1:]):
        if part == "more":
            words.append(len(thing))
            for one in thing:
                words.extend(tree_words(one))
        elif part == "tree":
            words.extend(tree_words(thing))
    return words


def try_lines(statement):
    """The lines of a try."""
    _, body, name, local, other = statement
    return ["try", *body_lines(body), told("catch", name, local), *body_lines(other), "end"]


def statement_lines(statement):
    """The lines of a statement."""
    if statement[0] == "try":
        return try_lines(statement)
    bodies = bodies_in(statement)
    words = tree_words(statement)
    lines = [told(*words)]
    for at, body in enumerate(bodies):
        lines.extend(["else", *body_lines(body)] if at == 1 else body_lines(body))
    return [*lines, "end"] if bodies else lines


def body_lines(body):
    """The lines of a body."""
    return [line for statement in body for line in statement_lines(statement)]


def write_book(book):
    """The text of a book."""
    check_book(book)
    lines = []
    for row in book.classes:
        lines.extend(shell_lines(row))
        for method in row[3]:
            lines.extend([head_line(method), *body_lines(method[3])])
    return "\n".join(lines)
