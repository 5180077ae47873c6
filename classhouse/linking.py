"""Pools of entries, codes that tell entries by their places, and what entries come to (points 23 and 24)."""

from classhouse.checks import check_house, check_name, check_place
from classhouse.entries import NAMING, entry_of, is_entry, link_of, pool_of
from classhouse.errors import BadEntry, BadPool, BadPooled
from classhouse.lookup import method_at
from classhouse.words import is_number, is_tuple, is_word


def pool(house, name):
    """The tuple of the unlike entries that a class's own methods name, in the order in which they come first."""
    check_name(house, name)
    return pool_of(house.classes, name)


def pooled_step(entries, step):
    """A step with the place of its entry, if it names one."""
    entry = entry_of(step)
    return step if entry is None else (step[0], entries.index(entry))


def pooled(house, name, place):
    """The code of a class's own method with places in the pool instead of names."""
    check_place(house, name, place)
    entries = pool_of(house.classes, name)
    return tuple([pooled_step(entries, step) for step in method_at(house.classes, name, place)[3]])


def has_entry_form(value):
    """Tells whether any value has the form of an entry, of whichever house."""
    if not is_tuple(value, 2, 3) or not all([is_word(part) for part in value[1:]]):
        return False
    return value[0] == "class" if len(value) == 2 else value[0] in ("field", "method")


def check_pool(entries):
    """Raises BadPool unless any value is a tuple of at most 99 forms of entries."""
    if not is_tuple(entries, 0, 99):
        raise BadPool(None)
    for index, value in enumerate(entries):
        if not has_entry_form(value):
            raise BadPool(index)


def is_naming(step):
    """Tells whether a tuple is a step that names an entry."""
    return len(step) > 0 and isinstance(step[0], str) and step[0] in NAMING


def goes_with_entry(entries, step):
    """Tells whether a step that names an entry is a pair with the place of one that goes with it."""
    if len(step) != 2 or not is_number(step[1], len(entries) - 1):
        return False
    return entries[step[1]][0] == NAMING[step[0]]


def check_pooled(entries, code):
    """Raises BadPooled unless any value is a code whose places are those of entries that go with its steps."""
    if not is_tuple(code, 0, 20) or not all([isinstance(step, tuple) for step in code]):
        raise BadPooled(None)
    for index, step in enumerate(code):
        if is_naming(step) and not goes_with_entry(entries, step):
            raise BadPooled(index)


def unpooled(pool, code):
    """The code with the names of the entries of a pool in the place of their places."""
    check_pool(pool)
    check_pooled(pool, code)
    return tuple([(step[0], *pool[step[1]][1:]) if is_naming(step) else step for step in code])


def linked(house, entry):
    """What an entry comes to: the place of a class, or the class and the place of a field or a method."""
    check_house(house)
    if not is_entry(house.classes, entry):
        raise BadEntry("no entry of the house")
    return link_of(house.classes, entry)


def link_table(house, name):
    """The tuple of what the entries of the pool of a class come to."""
    check_name(house, name)
    return tuple([link_of(house.classes, entry) for entry in pool_of(house.classes, name)])
