"""The steps and handlers of methods: what parts they have, and which can stand in a code (point 3)."""

from classhouse.lookup import field_kind, is_class, nearest
from classhouse.words import is_number, is_tuple

# What stands behind the word of each step.
PARTS = {
    "push": ("number",),
    "none": (),
    "take": ("local",),
    "keep": ("local",),
    "add": (),
    "less": (),
    "same": (),
    "new": ("class",),
    "cast": ("class",),
    "is": ("class",),
    "get": ("class", "field"),
    "put": ("class", "field"),
    "call": ("class", "method"),
    "go": ("step",),
    "if": ("step",),
    "give": (),
    "throw": (),
    "enter": (),
    "leave": (),
    "copy": (),
    "drop": (),
    "print": (),
}

# The steps behind which a code may end.
LAST = ("give", "go", "throw")


def can_be_part(classes, many, part, step, value):
    """Tells whether a value can be a part of a step, whose parts ahead can stand, in a code of so many steps."""
    if part == "number":
        return is_number(value, 15)
    if part == "local":
        return is_number(value, 3)
    if part == "step":
        return is_number(value, many - 1)
    if part == "class":
        return is_class(classes, value)
    if part == "field":
        return field_kind(classes, step[1], value) is not None
    return nearest(classes, step[1], value) is not None


def is_step(classes, many, step):
    """Tells whether a value is a step that can stand in a code of so many steps, ahead of the last one."""
    if not is_tuple(step, 1, 3) or not isinstance(step[0], str) or step[0] not in PARTS:
        return False
    parts = PARTS[step[0]]
    if len(step) != len(parts) + 1:
        return False
    for part, value in zip(parts, step[1:]):
        if not can_be_part(classes, many, part, step, value):
            return False
    return True


def bad_step(classes, code):
    """The index of the first step of a code that cannot stand there, None if all can."""
    many = len(code)
    for index, step in enumerate(code):
        if not is_step(classes, many, step):
            return index
    if code[-1][0] not in LAST:
        return many - 1
    return None


def is_handler(classes, many, row):
    """Tells whether a value is a handler of a code of so many steps."""
    if not is_tuple(row, 4, 4) or not is_number(row[0], many - 1) or not is_number(row[1], many):
        return False
    return row[0] < row[1] and is_class(classes, row[2]) and is_number(row[3], many - 1)


def bad_handler(classes, many, handlers):
    """The index of the first handler that is none for a code of so many steps, None if all are."""
    for index, row in enumerate(handlers):
        if not is_handler(classes, many, row):
            return index
    return None


def covers(handler, step):
    """Tells whether a handler covers a step."""
    return handler[0] <= step < handler[1]


def goals_of(code, index):
    """The steps to which a step turns without a fault, each once."""
    word = code[index][0]
    if word in ("give", "throw"):
        return ()
    if word == "go":
        return (code[index][1],)
    if word == "if" and code[index][1] != index + 1:
        return index + 1, code[index][1]
    return (index + 1,)


def goals_in(method):
    """The ascending tuple of the goals of the gos, ifs and handlers of a method."""
    goals = {step[1] for step in method[3] if step[0] in ("go", "if")}
    for handler in method[4]:
        goals.add(handler[3])
    return tuple(sorted(goals))


def led_to(method, index):
    """The ascending list of the steps to which a step of a method leads, by a fault, too."""
    goals = list(goals_of(method[3], index))
    return sorted({goal for goal in goals + [handler[3] for handler in method[4] if covers(handler, index)]})
