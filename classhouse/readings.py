"""Texts as books (point 45)."""

from classhouse.errors import InvalidText, NoText
from classhouse.texts import can_be, form_of, part_of
from classhouse.treeforms import EXPRESSIONS, STATEMENTS, TREE_PARTS
from classhouse.trees import Book

SHELLS = ("class", "field", "method")

# What stands behind the first word of the lines of statements with bodies.
BLOCK_PARTS = {
    "if": ("tree",),
    "else": (),
    "while": ("tree",),
    "try": (),
    "catch": ("class", "local"),
    "end": (),
}

# The line that ends the body that is open, by the word of its statement and how much of this is told.
ENDS = {
    ("if", 2): "else",
    ("if", 3): "end",
    ("while", 2): "end",
    ("try", 1): "catch",
    ("try", 4): "end",
}


class Reading:
    """What lines have told: classes, and the statements of the last method whose bodies are open."""

    def __init__(self):
        self.rows = []
        self.blocks = []

    def statements(self):
        """The list of the statements of the innermost open body."""
        return self.blocks[-1][1] if self.blocks else self.rows[-1][3][-1][3]


def parts_of(words):
    """What has to stand behind the first word of a line."""
    first = words[0]
    if first in SHELLS:
        return form_of(words)
    return BLOCK_PARTS[first] if first in BLOCK_PARTS else TREE_PARTS[first]


def may_stand(reading, first):
    """Tells whether a line with this first word can stand behind the lines read so far."""
    rows, blocks = reading.rows, reading.blocks
    if first == "class":
        return not blocks and len(rows) < 8
    if not rows:
        return False
    fields, methods = rows[-1][2:]
    if first == "field":
        return not methods and len(fields) < 4
    if first == "method":
        return not blocks and len(methods) < 4
    if not methods:
        return False
    if first in STATEMENTS:
        return True
    return bool(blocks) and first == ENDS[(blocks[-1][0][0], len(blocks[-1][0]))]


def can_come(word, part):
    """Tells whether a word of a line can be, or begin, such a part."""
    return word in EXPRESSIONS if part == "tree" else can_be(word, part)


def take_word(levels, word, part):
    """Takes a word as such a part of the innermost thing that is not yet told to its end."""
    if part == "tree":
        levels.append(([word], list(TREE_PARTS[word])))
    elif part == "more":
        levels.append(([], ["tree"] * int(word)))
    else:
        levels[-1][0].append(part_of(word, part))
    while len(levels) > 1 and not levels[-1][1]:
        whole = levels.pop()[0]
        levels[-1][0].append(tuple(whole))


def told_by(words):
    """The pair of what a line tells, and of the place of its first word that cannot stand; one of both is None."""
    # Each level is a thing within the one ahead of it: what is told of it, and the parts that are to come.
    levels = [([words[0]], list(parts_of(words)))]
    for place, word in enumerate(words[1:], start=2):
        wanted = levels[-1][1]
        if not wanted or not can_come(word, wanted[0]):
            return None, place
        take_word(levels, word, wanted.pop(0))
    if levels[-1][1]:
        return None, len(words) + 1
    return tuple(levels[0][0]), None


def add_shell(reading, row):
    """Adds what a line of a class, a field or a method tells."""
    if row[0] == "class":
        reading.rows.append((row[1], row[3], [], []))
    elif row[0] == "field":
        reading.rows[-1][2].append(row[1:])
    else:
        reading.rows[-1][3].append((row[1], row[3:], row[2], []))


def add_line(reading, row):
    """Adds what a line tells."""
    if row[0] in SHELLS:
        add_shell(reading, row)
    elif row[0] in ("if", "while", "try"):
        reading.blocks.append((row, []))
    elif row[0] in STATEMENTS:
        reading.statements().append(row)
    else:
        ahead, statements = reading.blocks.pop()
        whole = (*ahead, tuple(statements), *row[1:])
        if row[0] == "end":
            reading.statements().append(whole)
        else:
            reading.blocks.append((whole, []))


def read_line(reading, line, words):
    """Reads the words of a line, told by its number."""
    if not words or not may_stand(reading, words[0]):
        raise InvalidText(line, 1)
    row, place = told_by(words)
    if place is not None:
        raise InvalidText(line, place)
    add_line(reading, row)


def class_made(row):
    """The class that was read, its lists as tuples."""
    name, upper, fields, methods = row
    return name, upper, tuple(fields), tuple([(*method[:3], tuple(method[3])) for method in methods])


def read_book(text):
    """The book of a text."""
    if not isinstance(text, str):
        raise NoText("no string")
    reading = Reading()
    lines = text.split("\n")
    for line, row in enumerate(lines, start=1):
        read_line(reading, line, [word for word in row.split(" ") if word])
    if reading.blocks:
        raise InvalidText(len(lines) + 1, 1)
    return Book(tuple([class_made(row) for row in reading.rows]))
