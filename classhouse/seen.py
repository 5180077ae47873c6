"""Which fields and methods are seen in a class (point 6)."""

from classhouse.checks import check_house, check_name, check_word
from classhouse.lookup import class_of, fields_up, line_up, nearest


def fields_of(house, name):
    """The tuple of the pairs (word, kind) of all fields of things of a class, those of upper classes ahead."""
    check_name(house, name)
    return fields_up(house.classes, name)


def method_of(house, name, word):
    """The pair (class, place) of the nearest method of a word, None if none is seen in the class."""
    check_word(house, name, word)
    return nearest(house.classes, name, word)


def methods_of(house, name):
    """The ascending tuple of the pairs (word, class) of all methods that are seen, with the nearest one's class."""
    check_name(house, name)
    nearest_classes = {}
    for upper in line_up(house.classes, name):
        for method in class_of(house.classes, upper)[3]:
            nearest_classes.setdefault(method[0], upper)
    return tuple(sorted(nearest_classes.items()))


def overrides(house):
    """The list of the tuples (class, word, upper) of the methods whose word is seen in the class above, too."""
    check_house(house)
    found = []
    for name, upper, _, methods in house.classes:
        for method in methods:
            seen = nearest(house.classes, upper, method[0])
            if seen is not None:
                found.append((name, method[0], seen[0]))
    return found
