"""Tries within tries, and the rows of handlers that do the same (points 34 and 35)."""

from classhouse.checks import check_house, check_name
from classhouse.errors import BadNesting, BadRows, BadSize, BadStep
from classhouse.lookup import line_up
from classhouse.steps import covers, is_handler
from classhouse.words import is_number, is_tuple

MOST_TRIES = 6


def check_size(house, size):
    """Raises NoHouse, or BadSize unless any value is an integer from 1 to 20."""
    check_house(house)
    if not is_number(size, 20) or size == 0:
        raise BadSize("no integer from 1 to 20")


def count_tries(classes, size, value, begin, end, most):
    """How many tries any value has in all, if it is a nesting from begin to end with at most so many; else None."""
    if not isinstance(value, tuple):
        return None
    many = 0
    for row in value:
        if many == most or not is_tuple(row, 5, 5) or not is_handler(classes, size, row[:4]):
            return None
        if row[0] < begin or row[1] > end:
            return None
        inner = count_tries(classes, size, row[4], row[0], row[1], most - many - 1)
        if inner is None:
            return None
        many += inner + 1
        begin = row[1]
    return many


def is_nesting(classes, size, value):
    """Tells whether any value is a nesting of a size."""
    return count_tries(classes, size, value, 0, size, MOST_TRIES) is not None


def check_nesting(house, size, nesting):
    """Raises what check_size does, or BadNesting unless any value is a nesting."""
    check_size(house, size)
    if not is_nesting(house.classes, size, nesting):
        raise BadNesting("no nesting of the size")


def rows_of(nesting):
    """The list of the rows of a nesting."""
    rows = []
    for row in nesting:
        rows.extend(rows_of(row[4]))
        rows.append(row[:4])
    return rows


def rows_by(house, size, nesting):
    """The tuple of the rows of a nesting, try by try, those of inner tries ahead."""
    check_nesting(house, size, nesting)
    return tuple(rows_of(nesting))


def tries_around(nesting, step):
    """The list of the tries that cover a step, the innermost first."""
    for row in nesting:
        if covers(row, step):
            return [*tries_around(row[4], step), row]
    return []


def caught_in(house, size, nesting, step, kind):
    """The goal of the innermost try that catches things of a class at a step, None if there is none."""
    check_nesting(house, size, nesting)
    if not is_number(step, size - 1):
        raise BadStep("no step of the size")
    check_name(house, kind)
    line = line_up(house.classes, kind)
    for row in tries_around(nesting, step):
        if row[2] in line:
            return row[3]
    return None


def check_rows(house, size, rows):
    """Raises what check_size does, or BadRows unless any value is a tuple of at most 6 rows of the size."""
    check_size(house, size)
    if not is_tuple(rows, 0, MOST_TRIES):
        raise BadRows(None)
    for index, value in enumerate(rows):
        if not is_handler(house.classes, size, value):
            raise BadRows(index)


def do_meet(one, other):
    """Tells whether two rows cover a step both."""
    return one[0] < other[1] and other[0] < one[1]


def is_inside(one, other):
    """Tells whether a row covers no step that another one does not."""
    return other[0] <= one[0] and one[1] <= other[1]


def is_cross(rows, one, other):
    """Tells whether two rows, the one ahead, meet, and it covers some step that the other one does not."""
    return one < other and do_meet(rows[one], rows[other]) and not is_inside(rows[one], rows[other])


def outer_of(rows, index):
    """The index of the row whose try is right around that of a row, None if none is, where no rows cross."""
    for other in range(index + 1, len(rows)):
        if do_meet(rows[index], rows[other]):
            return other
    return None


def nesting_within(rows, outer):
    """The nesting of the tries right within that of a row, None standing for none around them."""
    within = [index for index in range(len(rows)) if outer_of(rows, index) == outer]
    ordered = sorted([(rows[index][0], index) for index in within])
    return tuple([(*rows[index], nesting_within(rows, index)) for _, index in ordered])


def nesting_paper(house, size, rows):
    """("nesting", nesting) that has the rows, in their order where they meet, or ("cross", one, other)."""
    check_rows(house, size, rows)
    for other in range(len(rows)):
        for one in range(other):
            if is_cross(rows, one, other):
                return "cross", one, other
    return "nesting", nesting_within(rows, None)


def has_rows(nesting, rows):
    """Tells whether a nesting has these rows, each as often, and each two that meet in their order."""
    own = rows_of(nesting)
    if sorted(own) != sorted(rows):
        return False
    # Rows that are the same meet, so the first of them must be the first one there, and so on.
    places = [place_of(own, row, rows[:index].count(row)) for index, row in enumerate(rows)]
    for other in range(len(rows)):
        for one in range(other):
            if do_meet(rows[one], rows[other]) and places[one] > places[other]:
                return False
    return True


def place_of(rows, row, ahead):
    """The place of a row in rows, ahead of which so many that are the same stand."""
    places = [place for place, other in enumerate(rows) if other == row]
    return places[ahead]


def shows_nesting(house, size, rows, value):
    """Tells whether any value is a nesting of the rows, or two rows that cross, as nesting_paper tells them."""
    check_rows(house, size, rows)
    if is_tuple(value, 2, 2) and value[0] == "nesting":
        return is_nesting(house.classes, size, value[1]) and has_rows(value[1], rows)
    if not is_tuple(value, 3, 3) or value[0] != "cross":
        return False
    if not all([is_number(index, len(rows) - 1) for index in value[1:]]):
        return False
    return is_cross(rows, value[1], value[2])
