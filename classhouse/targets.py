"""Upper methods, and what calls can come to (point 30)."""

from classhouse.checks import check_house, check_word
from classhouse.errors import NotOwn
from classhouse.lookup import class_of, line_down, line_up, nearest


def has_own(classes, name, word):
    """Tells whether a class has a method of a word itself."""
    return word in [method[0] for method in class_of(classes, name)[3]]


def method_line(house, name, word):
    """The tuple of the classes of upward of a class that have a method of a word themselves."""
    check_word(house, name, word)
    return tuple([upper for upper in line_up(house.classes, name) if has_own(house.classes, upper, word)])


def upper_method(house, name, word):
    """The pair (class, place) of the nearest method of a word from the class above on, None if there is none."""
    check_word(house, name, word)
    if name == "top":
        return None
    return nearest(house.classes, class_of(house.classes, name)[1], word)


def owner_from(classes, name, word):
    """The class whose method of a word is the nearest one from a class, None if there is none."""
    found = nearest(classes, name, word)
    return None if found is None else found[0]


def targets_of(classes, name, word):
    """What targets tells, for values that are known to be what they should."""
    owners = [owner_from(classes, below, word) for below in line_down(classes, name)]
    return tuple([row[0] for row in classes if row[0] in owners])


def targets(house, name, word):
    """The tuple of the classes whose method of a word is the nearest one from some class of downward of a class."""
    check_word(house, name, word)
    return targets_of(house.classes, name, word)


def reached_from(house, name, word):
    """The tuple of the classes from which the nearest method of a word is that of a class."""
    check_word(house, name, word)
    classes = house.classes
    if not has_own(classes, name, word):
        raise NotOwn("the class has no method of the word itself")
    return tuple([row[0] for row in classes if owner_from(classes, row[0], word) == name])


def widest_call(house):
    """(many, class, word) of the greatest number of targets, None if the house has no methods."""
    check_house(house)
    words = sorted({method[0] for row in house.classes for method in row[3]})
    best = None
    for row in house.classes:
        for word in words:
            many = len(targets_of(house.classes, row[0], word))
            if best is None or many > best[0]:
                best = (many, row[0], word)
    return best
