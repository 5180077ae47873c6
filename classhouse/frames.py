"""Frames of kinds, and what the steps of methods make of them (points 17 and 18)."""

from classhouse.checks import check_place, check_step
from classhouse.errors import BadFrame
from classhouse.lookup import field_kind, method_at, nearest_method
from classhouse.order import does_fit, is_kind
from classhouse.steps import covers, goals_of
from classhouse.words import is_tuple

MOST_ON_STACK = 6

# The steps that want the same kinds in each method, the top one first; each kind fits "unset".
PLAIN_WANTS = {
    "keep": ("unset",),
    "copy": ("unset",),
    "drop": ("unset",),
    "add": ("num", "num"),
    "less": ("num", "num"),
    "same": ("top", "top"),
    "is": ("top",),
    "if": ("num",),
    "print": ("num",),
    "throw": ("top",),
    "enter": ("top",),
    "leave": ("top",),
    "cast": ("top",),
}

# The steps that lay the same kinds in each method.
PLAIN_LAYS = {
    "push": ("num",),
    "none": ("none",),
    "add": ("num",),
    "less": ("num",),
    "same": ("num",),
    "is": ("num",),
}


def is_frame(classes, value):
    """Tells whether any value is a frame."""
    if not is_tuple(value, 2, 2) or not is_tuple(value[0], 4, 4) or not is_tuple(value[1], 0, MOST_ON_STACK):
        return False
    if not all([is_kind(classes, kind) for kind in value[0]]):
        return False
    return all([is_kind(classes, kind) and kind != "unset" for kind in value[1]])


def does_frame_fit(classes, one, other):
    """Tells whether a frame fits another one."""
    if len(one[1]) != len(other[1]):
        return False
    pairs = list(zip(one[0] + one[1], other[0] + other[1]))
    return all([does_fit(classes, kind, wanted) for kind, wanted in pairs])


def kinds_wanted(classes, method, step):
    """The kinds that a step wants to take off the stack, the top one first."""
    if step[0] == "get":
        return (step[1],)
    if step[0] == "put":
        return field_kind(classes, step[1], step[2]), step[1]
    if step[0] == "call":
        return (*nearest_method(classes, step[1], step[2])[1][::-1], step[1])
    if step[0] == "give":
        return (method[2],)
    return PLAIN_WANTS.get(step[0], ())


def kinds_laid(classes, step, frame):
    """The kinds that a step lays on the stack, when it has taken off what it wants."""
    cells, stack = frame
    if step[0] == "take":
        return (cells[step[1]],)
    if step[0] == "copy":
        return stack[-1], stack[-1]
    if step[0] in ("new", "cast"):
        return (step[1],)
    if step[0] == "get":
        return (field_kind(classes, step[1], step[2]),)
    if step[0] == "call":
        return (nearest_method(classes, step[1], step[2])[2],)
    return PLAIN_LAYS.get(step[0], ())


def frame_made(classes, method, step, frame):
    """The frame that a step makes of a frame, None if it goes wrong."""
    cells, stack = frame
    wanted = kinds_wanted(classes, method, step)
    if len(stack) < len(wanted):
        return None
    for kind, want in zip(stack[::-1], wanted):
        if not does_fit(classes, kind, want):
            return None
    made = stack[:len(stack) - len(wanted)] + kinds_laid(classes, step, frame)
    # Only a take can lay "unset": nothing on the stack ever is.
    if "unset" in made or len(made) > MOST_ON_STACK:
        return None
    if step[0] == "keep":
        cells = cells[:step[1]] + stack[-1:] + cells[step[1] + 1:]
    return cells, made


def turns_of(classes, method, index, frame):
    """The ascending list of the pairs (turn, frame) of a step on a frame, None if it goes wrong."""
    code, handlers = method[3:]
    made = frame_made(classes, method, code[index], frame)
    if made is None:
        return None
    turns = [((goal, -1), made) for goal in goals_of(code, index)]
    for row, handler in enumerate(handlers):
        if covers(handler, index):
            turns.append(((handler[3], row), (frame[0], (handler[2],))))
    return sorted(turns)


def frame_ahead(name, method):
    """The frame ahead of the first step of a method of a class."""
    kinds = (name, *method[1])
    return kinds + ("unset",) * (4 - len(kinds)), ()


def first_frame(house, name, place):
    """The frame ahead of the first step of a method."""
    check_place(house, name, place)
    return frame_ahead(name, method_at(house.classes, name, place))


def turns_from(house, name, place, step, frame):
    """The ascending list of the pairs (turn, frame) of a step on a frame, None if the step goes wrong."""
    check_step(house, name, place, step)
    if not is_frame(house.classes, frame):
        raise BadFrame("no frame")
    return turns_of(house.classes, method_at(house.classes, name, place), step, frame)
