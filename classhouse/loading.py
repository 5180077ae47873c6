"""Classes loaded late, and houses that grow behind their links (points 25 and 26)."""

from classhouse.checks import check_house
from classhouse.entries import is_entry, link_of, pool_of, slot_of_field
from classhouse.errors import BadLoaded, BadStock, BadUses, NotGrown
from classhouse.lookup import fields_up, is_class, line_up, nearest
from classhouse.words import is_tuple


def is_loadable(classes, value):
    """Tells whether any value is a class that needs loading."""
    return is_class(classes, value) and value != "top"


def check_stock(classes, stock):
    """Raises BadStock unless any value is an ascending tuple of unlike classes but "top"."""
    if not isinstance(stock, tuple) or not all([is_loadable(classes, name) for name in stock]):
        raise BadStock("no tuple of classes")
    if not all([one < other for one, other in zip(stock, stock[1:])]):
        raise BadStock("the classes do not ascend")


def needed_for(classes, name):
    """The tuple of the classes that must be loaded for a class, in the order of loading, itself the last one."""
    return line_up(classes, name)[:-1][::-1]


def check_loaded(classes, loaded):
    """Raises BadLoaded unless any value is a tuple of unlike classes, each behind all above it."""
    if not isinstance(loaded, tuple):
        raise BadLoaded("no tuple")
    for index, name in enumerate(loaded):
        if not is_loadable(classes, name) or name in loaded[:index]:
            raise BadLoaded("no class that is not yet loaded")
        if not all([upper in loaded[:index] for upper in needed_for(classes, name)[:-1]]):
            raise BadLoaded("a class ahead of one above it")


def check_uses(classes, uses):
    """Raises BadUses unless any value is a tuple of at most 40 entries."""
    if not is_tuple(uses, 0, 40):
        raise BadUses(None)
    for index, value in enumerate(uses):
        if not is_entry(classes, value):
            raise BadUses(index)


def late_loads(house, stock, loaded, uses):
    """("all", loaded) behind all uses, or ("lacks", index, class, loaded) at the first class that lacks."""
    check_house(house)
    check_stock(house.classes, stock)
    check_loaded(house.classes, loaded)
    check_uses(house.classes, uses)
    found = list(loaded)
    for index, entry in enumerate(uses):
        for name in needed_for(house.classes, entry[1]):
            if name in found:
                continue
            if name not in stock:
                return "lacks", index, name, tuple(found)
            found.append(name)
    return "all", tuple(found)


def least_stock(house, loaded, uses):
    """The smallest stock with which no class lacks."""
    check_house(house)
    check_loaded(house.classes, loaded)
    check_uses(house.classes, uses)
    needed = [name for entry in uses for name in needed_for(house.classes, entry[1])]
    return tuple(sorted({name for name in needed if name not in loaded}))


def is_ahead_in(one, other):
    """Tells whether a tuple stands at the beginning of another one."""
    return one == other[:len(one)]


def heads_of(methods):
    """The tuple of methods but for their codes and handlers."""
    return tuple([method[:3] for method in methods])


def has_grown_into(one, other):
    """Tells whether classes grow into other ones."""
    if [row[:2] for row in one] != [row[:2] for row in other]:
        return False
    pairs = list(zip(one, other))
    if not all([is_ahead_in(row[2], grown[2]) for row, grown in pairs]):
        return False
    return all([is_ahead_in(heads_of(row[3]), heads_of(grown[3])) for row, grown in pairs])


def does_grow(one, other):
    """Tells whether a house grows into another one."""
    check_house(one)
    check_house(other)
    return has_grown_into(one.classes, other.classes)


def check_grown(one, other):
    """Raises NoHouse, or NotGrown unless a house grows into another one."""
    if not does_grow(one, other):
        raise NotGrown("the house does not grow into the other one")


def stale(one, other):
    """The list of the tuples (class, entry) of the entries of pools of a house that come to something else in other."""
    check_grown(one, other)
    found = []
    for row in one.classes:
        for entry in pool_of(one.classes, row[0]):
            if link_of(one.classes, entry) != link_of(other.classes, entry):
                found.append((row[0], entry))
    return found


def taken(one, other):
    """The list of the pairs (class, word) of further methods whose word was seen in the class before."""
    check_grown(one, other)
    found = []
    for row, grown in zip(one.classes, other.classes):
        for method in grown[3][len(row[3]):]:
            if nearest(one.classes, row[0], method[0]) is not None:
                found.append((row[0], method[0]))
    return found


def has_shifted(one, other, name):
    """Tells whether a field of things of a class has another slot in other classes."""
    words = [word for word, _ in fields_up(one, name)]
    return any([slot != slot_of_field(other, name, word) for slot, word in enumerate(words)])


def shifted(one, other):
    """The tuple of the classes some field of whose things has another slot in the other house."""
    check_grown(one, other)
    return tuple([row[0] for row in one.classes if has_shifted(one.classes, other.classes, row[0])])
