"""Choices among options by the kinds that come in (points 28 and 29)."""

from classhouse.checks import check_house
from classhouse.errors import BadChoice, BadKinds
from classhouse.houses import is_told_kind
from classhouse.lookup import names_of
from classhouse.order import does_fit
from classhouse.words import is_alike, is_number, is_tuple


def is_option(classes, value):
    """Tells whether any value is an option."""
    return is_tuple(value, 0, 3) and all([is_told_kind(classes, kind) for kind in value])


def check_choice(house, choice):
    """Raises NoHouse, or BadChoice unless any value is a choice."""
    check_house(house)
    if not is_tuple(choice, 1, 8):
        raise BadChoice(None)
    for index, option in enumerate(choice):
        if not is_option(house.classes, option) or option in choice[:index]:
            raise BadChoice(index)


def is_kind_in(classes, value):
    """Tells whether any value is a kind that comes in."""
    return value == "none" or is_told_kind(classes, value)


def check_kinds(house, choice, kinds):
    """Raises what check_choice does, or BadKinds unless any value is kinds in."""
    check_choice(house, choice)
    if not is_tuple(kinds, 0, 3) or not all([is_kind_in(house.classes, kind) for kind in kinds]):
        raise BadKinds("no kinds in")


def does_take(classes, option, kinds):
    """Tells whether an option takes kinds in."""
    if len(option) != len(kinds):
        return False
    return all([does_fit(classes, kind, wanted) for kind, wanted in zip(kinds, option)])


def indexes_that_take(classes, choice, kinds):
    """The ascending list of the indexes of the options that take kinds in."""
    return [index for index, option in enumerate(choice) if does_take(classes, option, kinds)]


def nearest_among(classes, choice, found):
    """The one of some indexes whose option is nearer than all others of these, None if none is."""
    for index in found:
        # Each option takes its own kinds, so that it need not be left out here.
        if all([does_take(classes, choice[other], choice[index]) for other in found]):
            return index
    return None


def are_double(classes, choice, found, one, other):
    """Tells whether of two takers none of all is nearer than both, or is one of them and nearer than the other one."""
    for index in found:
        kinds = choice[index]
        if does_take(classes, choice[one], kinds) and does_take(classes, choice[other], kinds):
            return False
    return True


def takers(house, choice, kinds):
    """The ascending list of the indexes of the options that take kinds in."""
    check_kinds(house, choice, kinds)
    return indexes_that_take(house.classes, choice, kinds)


def nearest_taker(house, choice, kinds):
    """The index of the taker that is nearer than all others, None if there is none."""
    found = takers(house, choice, kinds)
    return nearest_among(house.classes, choice, found)


def paper_of(classes, choice, kinds):
    """What choice_paper tells, for values that are known to be what they should."""
    found = indexes_that_take(classes, choice, kinds)
    if not found:
        return ("none",)
    index = nearest_among(classes, choice, found)
    if index is not None:
        return "one", index
    pairs = [(one, other) for one in found for other in found if one < other]
    doubles = [pair for pair in pairs if are_double(classes, choice, found, pair[0], pair[1])]
    return ("two", *doubles[0])


def choice_paper(house, choice, kinds):
    """("one", index) of the nearest taker, ("none",) without takers, or ("two", one, other) of which none is nearer."""
    check_kinds(house, choice, kinds)
    return paper_of(house.classes, choice, kinds)


def shows_choice(house, choice, kinds, value):
    """Tells whether any value is what choice_paper tells, with whichever such pair."""
    check_kinds(house, choice, kinds)
    paper = paper_of(house.classes, choice, kinds)
    if paper[0] != "two":
        return is_alike(value, paper)
    if not is_tuple(value, 3, 3) or value[0] != "two":
        return False
    found = indexes_that_take(house.classes, choice, kinds)
    if not all([is_number(index, len(choice) - 1) and index in found for index in value[1:]]):
        return False
    return value[1] < value[2] and are_double(house.classes, choice, found, value[1], value[2])


def first_double(house, choice):
    """The least of the shortest kinds in for which choice_paper tells "two", None if there are none."""
    check_choice(house, choice)
    names = sorted(["none", "num", *names_of(house.classes)])
    rows = [()]
    for _ in range(3):
        # Of no kinds there is but one option, so that none of these is missed.
        rows = [(*row, name) for row in rows for name in names]
        for kinds in rows:
            if paper_of(house.classes, choice, kinds)[0] == "two":
                return kinds
    return None
