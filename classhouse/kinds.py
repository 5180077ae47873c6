"""Classes above and below one another, and kinds that fit one another (points 4 and 5)."""

from classhouse.checks import check_kind, check_name
from classhouse.lookup import line_down, line_up
from classhouse.order import does_fit, first_common, join_of


def upward(house, name):
    """The tuple of a class, the one above it, and so on to "top"."""
    check_name(house, name)
    return line_up(house.classes, name)


def downward(house, name):
    """The tuple of the classes that have a class in their upward, "top" ahead, then in the order of the house."""
    check_name(house, name)
    return line_down(house.classes, name)


def common(house, one, other):
    """The first class of upward of one that upward of the other has, too."""
    check_name(house, one)
    check_name(house, other)
    return first_common(house.classes, one, other)


def fits(house, one, other):
    """Tells whether a kind fits another one."""
    check_kind(house, one)
    check_kind(house, other)
    return does_fit(house.classes, one, other)


def joined(house, one, other):
    """The least kind that two kinds fit."""
    check_kind(house, one)
    check_kind(house, other)
    return join_of(house.classes, one, other)
