"""How kinds stand to one another, for values that are known to be kinds of the house (points 4 and 5)."""

from classhouse.lookup import is_class, line_up

LOOSE_KINDS = ("unset", "odd", "num", "none")


def is_kind(classes, value):
    """Tells whether any value is a kind."""
    return value in LOOSE_KINDS or is_class(classes, value)


def does_fit(classes, one, other):
    """Tells whether a kind fits another one."""
    if one == other or other == "unset":
        return True
    if one == "unset":
        return False
    if other == "odd":
        return True
    if one == "none":
        return is_class(classes, other)
    return is_class(classes, one) and other in line_up(classes, one)


def first_common(classes, one, other):
    """The first class of upward of one that upward of the other has, too."""
    line = line_up(classes, other)
    return [name for name in line_up(classes, one) if name in line][0]


def join_of(classes, one, other):
    """The kind that both kinds fit, and that fits each kind that both fit."""
    if does_fit(classes, one, other):
        return other
    if does_fit(classes, other, one):
        return one
    if is_class(classes, one) and is_class(classes, other):
        return first_common(classes, one, other)
    # Neither fits the other one, so neither is "unset", and they have no class above both.
    return "odd"
