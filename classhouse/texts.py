"""Houses as texts, and texts as houses (points 8 and 9)."""

from classhouse.checks import check_house
from classhouse.errors import InvalidText, NoText
from classhouse.houses import House
from classhouse.steps import LAST, PARTS
from classhouse.words import is_word

# What stands behind the first word of the lines that are no steps; ins come behind a method's two words.
FORMS = {
    "class": ("word", "under", "word"),
    "field": ("word", "word"),
    "method": ("word", "word"),
    "catch": ("step", "end", "word", "step"),
}

# The greatest numbers that a line may tell, however long its code is.
GREATEST = {"number": 15, "local": 3, "more": 3, "step": 19, "end": 20}


def told(*parts):
    """The line of some parts."""
    return " ".join([str(part) for part in parts])


def shell_lines(row):
    """The lines of a class ahead of its methods."""
    name, upper, fields, _ = row
    return [told("class", name, "under", upper)] + [told("field", *pair) for pair in fields]


def head_line(method):
    """The first line of a method."""
    word, ins, out = method[:3]
    return told("method", word, out, *ins)


def method_lines(method):
    """The lines of a method."""
    lines = [head_line(method)]
    lines.extend([told(*step) for step in method[3]])
    lines.extend([told("catch", *row) for row in method[4]])
    return lines


def write(house):
    """The text of a house."""
    check_house(house)
    lines = []
    for row in house.classes:
        lines.extend(shell_lines(row))
        for method in row[3]:
            lines.extend(method_lines(method))
    return "\n".join(lines)


def is_whole(methods):
    """Tells whether the last one of some methods that are read, if there is one, may have no more steps."""
    return not methods or (bool(methods[-1][3]) and methods[-1][3][-1][0] in LAST)


def may_stand(rows, first):
    """Tells whether a line with this first word can stand behind the lines that made rows."""
    if first == "class":
        return not rows or (len(rows) < 8 and is_whole(rows[-1][3]))
    if not rows:
        return False
    fields, methods = rows[-1][2:]
    if first == "field":
        return not methods and len(fields) < 4
    if first == "method":
        return is_whole(methods) and len(methods) < 4
    if not methods:
        return False
    steps, handlers = methods[-1][3:]
    if first == "catch":
        return is_whole(methods) and len(handlers) < 4
    return first in PARTS and not handlers and len(steps) < 20


def form_of(words):
    """What has to stand behind the first word of a line."""
    first = words[0]
    if first == "method":
        ins = min(max(0, len(words) - 3), 3)
        return FORMS[first] + ("word",) * ins
    return FORMS[first] if first in FORMS else PARTS[first]


def can_be(word, part):
    """Tells whether a word of a line can be such a part."""
    if part == "under":
        return word == "under"
    if part in GREATEST:
        # No int(..): words may be digits without end, or have needless noughts.
        return word in [str(number) for number in range(GREATEST[part] + 1)]
    return is_word(word)


def bad_word(rows, words):
    """The place, counted from 1, of the first word of a line that cannot stand there, None if all can."""
    if not words or not may_stand(rows, words[0]):
        return 1
    form = form_of(words)
    for place, part in enumerate(form, start=1):
        if place == len(words) or not can_be(words[place], part):
            return place + 1
    return len(form) + 2 if len(words) > len(form) + 1 else None


def part_of(word, part):
    """A word of a line as the part of a tuple that it tells."""
    return int(word) if part in GREATEST else word


def add_line(rows, words):
    """Adds what a line tells, all of whose words can stand."""
    first = words[0]
    parts = [part_of(word, part) for word, part in zip(words[1:], form_of(words))]
    if first == "class":
        rows.append((parts[0], parts[2], [], []))
    elif first == "field":
        rows[-1][2].append(tuple(parts))
    elif first == "method":
        rows[-1][3].append((parts[0], tuple(parts[2:]), parts[1], [], []))
    elif first == "catch":
        rows[-1][3][-1][4].append(tuple(parts))
    else:
        rows[-1][3][-1][3].append((first, *parts))


def method_made(method):
    """The method that was read, its lists as tuples."""
    word, ins, out, steps, handlers = method
    return word, ins, out, tuple(steps), tuple(handlers)


def class_made(row):
    """The class that was read, its lists as tuples."""
    name, upper, fields, methods = row
    return name, upper, tuple(fields), tuple([method_made(method) for method in methods])


def read(text):
    """The house of a text."""
    if not isinstance(text, str):
        raise NoText("no string")
    rows = []
    lines = text.split("\n")
    for line, row in enumerate(lines, start=1):
        words = [word for word in row.split(" ") if word]
        word = bad_word(rows, words)
        if word is not None:
            raise InvalidText(line, word)
        add_line(rows, words)
    if not is_whole(rows[-1][3]):
        raise InvalidText(len(lines) + 1, 1)
    return House(tuple([class_made(row) for row in rows]))
