"""Expressions, statements and bodies: their parts, and which values they are (point 41)."""

from classhouse.lookup import nearest_method
from classhouse.steps import can_be_part
from classhouse.words import is_tuple

EXPRESSIONS = ("num", "none", "at", "add", "less", "same", "new", "cast", "is", "get", "call")
STATEMENTS = ("set", "put", "print", "do", "give", "throw", "if", "while", "try")

# What stands behind the word of each tree: single parts as those of steps, expressions, more of them, and bodies.
TREE_PARTS = {
    "num": ("number",),
    "none": (),
    "at": ("local",),
    "add": ("tree", "tree"),
    "less": ("tree", "tree"),
    "same": ("tree", "tree"),
    "new": ("class",),
    "cast": ("class", "tree"),
    "is": ("class", "tree"),
    "get": ("class", "field", "tree"),
    "call": ("class", "method", "tree", "more"),
    "set": ("local", "tree"),
    "put": ("class", "field", "tree", "tree"),
    "print": ("tree",),
    "do": ("tree",),
    "give": ("tree",),
    "throw": ("tree",),
    "if": ("tree", "body", "body"),
    "while": ("tree", "body"),
    "try": ("body", "class", "local", "body"),
}


def is_more(classes, tree, value, room):
    """Tells whether any value is the expressions of a call, as many as the ins, none deeper than room."""
    many = len(nearest_method(classes, tree[1], tree[2])[1])
    return is_tuple(value, many, many) and all([is_tree(classes, EXPRESSIONS, thing, room) for thing in value])


def is_tree_part(classes, part, tree, value, room):
    """Tells whether any value can be a part of a tree, whose parts ahead can stand, no deeper than room."""
    if part == "tree":
        return is_tree(classes, EXPRESSIONS, value, room)
    if part == "more":
        return is_more(classes, tree, value, room)
    if part == "body":
        return is_body(classes, value, room)
    # A tree has no goals, so how many steps there are does not matter.
    return can_be_part(classes, 0, part, tree, value)


def is_tree(classes, words, value, room):
    """Tells whether any value is a tree of one of these words, no deeper than room."""
    if room < 1 or not is_tuple(value, 1, 5) or value[0] not in words:
        return False
    parts = TREE_PARTS[value[0]]
    if len(value) != len(parts) + 1:
        return False
    for part, thing in zip(parts, value[1:]):
        if not is_tree_part(classes, part, value, thing, room - 1):
            return False
    return True


def is_body(classes, value, room):
    """Tells whether any value is a body, no deeper than room."""
    return isinstance(value, tuple) and all([is_tree(classes, STATEMENTS, thing, room - 1) for thing in value])


def singles_in(tree):
    """The list of the parts of a tree that are no trees."""
    return [thing for part, thing in zip(TREE_PARTS[tree[0]], tree[1:]) if part not in ("tree", "more", "body")]


def trees_in(tree):
    """The list of the expressions right in a tree, in their order."""
    found = []
    for part, thing in zip(TREE_PARTS[tree[0]], tree[1:]):
        if part == "tree":
            found.append(thing)
        elif part == "more":
            found.extend(thing)
    return found


def bodies_in(tree):
    """The list of the bodies right in a tree, in their order."""
    return [thing for part, thing in zip(TREE_PARTS[tree[0]], tree[1:]) if part == "body"]
