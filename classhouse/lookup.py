"""What is looked up in the classes of a house, which stand as tuples (name, upper, fields, methods).

The functions take names that are known to be classes; House uses them while its own classes are still looked at.
"""

TOP = ("top", None, (), ())


def is_class(classes, name):
    """Tells whether any value is a class, "top" among them."""
    return name in names_of(classes)


def names_of(classes):
    """The tuple of the names of all classes, "top" ahead."""
    return ("top", *[row[0] for row in classes])


def class_of(classes, name):
    """The whole class of a name."""
    for row in classes:
        if row[0] == name:
            return row
    return TOP


def line_up(classes, name):
    """The tuple of a class, the one above it, and so on to "top"."""
    line = []
    while name != "top":
        line.append(name)
        name = class_of(classes, name)[1]
    return (*line, "top")


def line_down(classes, name):
    """The tuple of the classes that have a class in their line up, "top" ahead, then in the order of the house."""
    return tuple([below for below in names_of(classes) if name in line_up(classes, below)])


def fields_up(classes, name):
    """The tuple of the fields that things of a class have, those of upper classes ahead."""
    pairs = []
    for upper in line_up(classes, name)[::-1]:
        pairs.extend(class_of(classes, upper)[2])
    return tuple(pairs)


def field_kind(classes, name, word):
    """The kind of a field of things of a class, None if they have none of this word."""
    for own, kind in fields_up(classes, name):
        if own == word:
            return kind
    return None


def nearest(classes, name, word):
    """The class and the place of the nearest method of a word, None if none is seen in the class."""
    for upper in line_up(classes, name):
        for place, method in enumerate(class_of(classes, upper)[3]):
            if method[0] == word:
                return upper, place
    return None


def method_at(classes, name, place):
    """The whole method of a class at a place."""
    return class_of(classes, name)[3][place]


def nearest_method(classes, name, word):
    """The whole nearest method of a word that is seen in a class."""
    upper, place = nearest(classes, name, word)
    return method_at(classes, upper, place)
