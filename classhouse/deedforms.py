"""Which values are deeds, and what their codes need (point 36)."""

from classhouse.errors import BadDeeds
from classhouse.words import is_number, is_tuple

THROWN = ("egg", "red", "box")
MOST_DEEP = 4

# What stands behind the word of each deed.
DEED_PARTS = {
    "print": ("number",),
    "throw": ("class",),
    "give": ("number",),
    "if": ("in", "deeds", "deeds"),
    "try": ("deeds", "class", "deeds"),
    "last": ("deeds", "more"),
}

# The deeds that the more of a last may have, at all depths.
QUIET = ("print", "if")


def is_part(part, value, words, depth):
    """Tells whether any value can be a part of a deed that stands so deep, among deeds of these words."""
    if part == "number":
        return is_number(value, 15)
    if part == "class":
        return value in THROWN
    if part == "in":
        return is_number(value, 3) and value != 0
    return are_deeds(value, QUIET if part == "more" else words, depth + 1)


def is_deed(value, words, depth):
    """Tells whether any value is a deed of one of these words that stands so deep."""
    if not is_tuple(value, 2, 4) or value[0] not in words:
        return False
    parts = DEED_PARTS[value[0]]
    if len(value) != len(parts) + 1:
        return False
    return all([is_part(part, thing, words, depth) for part, thing in zip(parts, value[1:])])


def are_deeds(value, words, depth):
    """Tells whether any value is deeds of these words alone that stand so deep."""
    if depth > MOST_DEEP or not is_tuple(value, 0, 6):
        return False
    return all([is_deed(deed, words, depth) for deed in value])


def check_deeds(deeds):
    """Raises BadDeeds unless any value is deeds."""
    if not are_deeds(deeds, list(DEED_PARTS), 1):
        raise BadDeeds("no deeds")


def need_of(deeds, given):
    """How many steps deeds need, each give in them being behind so many steps of its own."""
    return sum([need_of_deed(deed, given) for deed in deeds])


def need_of_deed(deed, given):
    """How many steps a deed needs."""
    if deed[0] == "give":
        return 2 + given
    if deed[0] == "if":
        return 3 + need_of(deed[2], given) + need_of(deed[3], given)
    if deed[0] == "try":
        body = need_of(deed[1], given)
        return 2 + body + need_of(deed[3], given) if body > 0 else 0
    if deed[0] == "last":
        more = need_of(deed[2], 0)
        body = need_of(deed[1], given + more)
        return 2 + body + 2 * more if body > 0 else more
    return 2


def handlers_of(deeds):
    """How many tries and lasts of deeds need a handler."""
    return sum([handlers_of_deed(deed) for deed in deeds])


def handlers_of_deed(deed):
    """How many tries and lasts need a handler, a deed among them."""
    if deed[0] == "if":
        return handlers_of(deed[2]) + handlers_of(deed[3])
    if deed[0] not in ("try", "last") or need_of(deed[1], 0) == 0:
        return 0
    inner = handlers_of(deed[1])
    return 1 + inner + handlers_of(deed[3]) if deed[0] == "try" else 1 + inner
