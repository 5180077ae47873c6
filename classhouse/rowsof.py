"""Rows of methods, in which a word has the same slot in all classes below (point 27)."""

from classhouse.checks import check_name, check_word
from classhouse.errors import BadSlot
from classhouse.lookup import class_of, line_up, nearest
from classhouse.words import is_number


def row_of(classes, name):
    """The row of a class."""
    owners = {}
    # A word that comes again keeps its place, with the lower class as its owner.
    for upper in line_up(classes, name)[::-1]:
        for method in class_of(classes, upper)[3]:
            owners[method[0]] = upper
    return tuple(owners.items())


def method_row(house, name):
    """The row of a class: the tuple of the pairs (word, class) of all methods that are seen, each in its slot."""
    check_name(house, name)
    return row_of(house.classes, name)


def slot_of(house, name, word):
    """The place in the row of a class of the pair with a word, None if it has none."""
    check_word(house, name, word)
    for slot, pair in enumerate(row_of(house.classes, name)):
        if pair[0] == word:
            return slot
    return None


def at_slot(house, name, slot):
    """The pair (class, place) of the method that the pair with a slot tells."""
    check_name(house, name)
    row = row_of(house.classes, name)
    if not is_number(slot, len(row) - 1):
        raise BadSlot("no place of the row")
    word, owner = row[slot]
    return nearest(house.classes, owner, word)
