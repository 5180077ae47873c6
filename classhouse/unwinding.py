"""Which handlers catch what is thrown, and what is thrown in runs (points 32 and 33)."""

from classhouse.checks import check_house, check_name, check_place, check_step
from classhouse.errors import BadPile
from classhouse.lookup import class_of, is_class, line_up, method_at, names_of
from classhouse.runs import ended
from classhouse.steps import covers
from classhouse.words import is_number, is_tuple


def row_for(classes, method, step, kind):
    """The row of the first handler that catches things of a class at a step, None if none does."""
    line = line_up(classes, kind)
    for row, handler in enumerate(method[4]):
        if covers(handler, step) and handler[2] in line:
            return row
    return None


def rows_for(classes, method, step):
    """The tuple of the rows that catch things of each class at a step."""
    return tuple([row_for(classes, method, step, kind) for kind in names_of(classes)])


def handler_for(house, name, place, step, kind):
    """The row of the first handler of a method that catches things of a class at a step, None if none does."""
    check_step(house, name, place, step)
    check_name(house, kind)
    return row_for(house.classes, method_at(house.classes, name, place), step, kind)


def catching(house, name, place, step):
    """The tuple of handler_for at a step for each class, "top" ahead, then in the order of the house."""
    check_step(house, name, place, step)
    return rows_for(house.classes, method_at(house.classes, name, place), step)


def dead_handlers(house, name, place):
    """The ascending tuple of the rows of the handlers that catch nothing at any step."""
    check_place(house, name, place)
    method = method_at(house.classes, name, place)
    alive = [row for step in range(len(method[3])) for row in rows_for(house.classes, method, step)]
    return tuple([row for row in range(len(method[4])) if row not in alive])


def is_spot(classes, value):
    """Tells whether any value is a triple (class, place, step) of a step of a method."""
    if not is_tuple(value, 3, 3) or not is_class(classes, value[0]):
        return False
    methods = class_of(classes, value[0])[3]
    return is_number(value[1], len(methods) - 1) and is_number(value[2], len(methods[value[1]][3]) - 1)


def check_pile(house, pile):
    """Raises NoHouse, or BadPile unless any value is a pile."""
    check_house(house)
    if not is_tuple(pile, 1, 8):
        raise BadPile(None)
    for index, value in enumerate(pile):
        if not is_spot(house.classes, value):
            raise BadPile(index)


def unwound(house, pile, kind):
    """The pair (index, goal) of the uppermost spot at which things of a class are caught, None if there is none."""
    check_pile(house, pile)
    check_name(house, kind)
    for index in reversed(range(len(pile))):
        name, place, step = pile[index]
        method = method_at(house.classes, name, place)
        row = row_for(house.classes, method, step, kind)
        if row is not None:
            return index, method[4][row][3]
    return None


def faults_of(house, name, word, ins):
    """The list of the tuples (done, class, ahead, behind) of all that is thrown in a run."""
    return list(ended(house, name, word, ins).thrown)
