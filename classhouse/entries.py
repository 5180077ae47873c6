"""The entries by which steps and handlers name classes, fields and methods (points 23 to 25)."""

from classhouse.lookup import class_of, field_kind, fields_up, is_class, line_up, names_of, nearest
from classhouse.words import is_tuple

# Which entry goes with each step that names one.
NAMING = {
    "new": "class",
    "cast": "class",
    "is": "class",
    "get": "field",
    "put": "field",
    "call": "method",
}


def entry_of(step):
    """The entry that a step names, None if it names none."""
    if step[0] not in NAMING:
        return None
    return (NAMING[step[0]], *step[1:])


def entries_in(method):
    """The list of what the steps of a method name, then its handlers, each as often as they do."""
    named = [entry_of(step) for step in method[3]]
    return [entry for entry in named if entry is not None] + [("class", handler[2]) for handler in method[4]]


def pool_of(classes, name):
    """The tuple of the unlike entries that the own methods of a class name, in the order in which they come first."""
    found = []
    for method in class_of(classes, name)[3]:
        for entry in entries_in(method):
            if entry not in found:
                found.append(entry)
    return tuple(found)


def is_entry(classes, value):
    """Tells whether any value is an entry: a class, a field of its things, or a method that is seen in it."""
    if not is_tuple(value, 2, 3) or not is_class(classes, value[1]):
        return False
    if len(value) == 2:
        return value[0] == "class"
    if value[0] == "field":
        return field_kind(classes, value[1], value[2]) is not None
    return value[0] == "method" and nearest(classes, value[1], value[2]) is not None


def owner_of(classes, name, word):
    """The class that has a field of things of a class itself."""
    for upper in line_up(classes, name):
        if word in [own for own, _ in class_of(classes, upper)[2]]:
            return upper
    return None


def slot_of_field(classes, name, word):
    """The place of a field among those of things of a class."""
    return [own for own, _ in fields_up(classes, name)].index(word)


def link_of(classes, entry):
    """What an entry comes to."""
    name = entry[1]
    if entry[0] == "class":
        return names_of(classes).index(name)
    if entry[0] == "field":
        return owner_of(classes, name, entry[2]), slot_of_field(classes, name, entry[2])
    return nearest(classes, name, entry[2])
