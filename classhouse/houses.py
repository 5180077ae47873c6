"""Houses of classes (points 2 and 3)."""

from classhouse.errors import BadClasses, BadCode, BadFields, BadHandlers, BadMethods
from classhouse.lookup import fields_up, is_class, nearest, nearest_method
from classhouse.steps import bad_handler, bad_step
from classhouse.words import is_tuple, is_word

TAKEN_NAMES = ("top", "num", "none", "odd", "unset")


def is_new_class(earlier, row):
    """Tells whether a value has the form, the name and the upper of a class behind those of earlier names."""
    if not is_tuple(row, 4, 4) or not is_word(row[0]) or row[0] in TAKEN_NAMES or row[0] in earlier:
        return False
    return row[1] == "top" or row[1] in earlier


def check_names(classes):
    """Raises BadClasses unless all things are classes, but for their fields and methods."""
    if not is_tuple(classes, 1, 8):
        raise BadClasses(None)
    earlier = []
    for index, row in enumerate(classes):
        if not is_new_class(earlier, row):
            raise BadClasses(index)
        earlier.append(row[0])


def is_told_kind(classes, value):
    """Tells whether a value is a kind that fields, ins and outs may have."""
    return value == "num" or is_class(classes, value)


def are_fields(classes, upper, fields):
    """Tells whether a value can be the fields of a class right below upper."""
    if not is_tuple(fields, 0, 4):
        return False
    words = [word for word, _ in fields_up(classes, upper)]
    for pair in fields:
        if not is_tuple(pair, 2, 2) or not is_word(pair[0]) or pair[0] in words:
            return False
        if not is_told_kind(classes, pair[1]):
            return False
        words.append(pair[0])
    return True


def is_method(classes, upper, words, method, parts):
    """Tells whether a value is a method of a class right below upper, but for what stands behind its out.

    words are those of the earlier methods of the class, parts is how many things a method has.
    """
    if not is_tuple(method, parts, parts) or not is_word(method[0]) or method[0] in words:
        return False
    word, ins, out = method[:3]
    if not is_tuple(ins, 0, 3) or not all([is_told_kind(classes, kind) for kind in ins]):
        return False
    if not is_told_kind(classes, out):
        return False
    if nearest(classes, upper, word) is None:
        return True
    return nearest_method(classes, upper, word)[1:3] == (ins, out)


def check_methods(classes, index, parts):
    """Raises BadMethods unless the methods of the class can stand, but for what stands behind their outs."""
    _, upper, _, methods = classes[index]
    if not is_tuple(methods, 0, 4):
        raise BadMethods(index, None)
    words = []
    for place, method in enumerate(methods):
        if not is_method(classes, upper, words, method, parts):
            raise BadMethods(index, place)
        words.append(method[0])


def check_code(classes, index, place):
    """Raises BadCode, or BadHandlers behind it, unless those of the method can stand."""
    code, handlers = classes[index][3][place][3:]
    if not is_tuple(code, 1, 20):
        raise BadCode(index, place, None)
    step = bad_step(classes, code)
    if step is not None:
        raise BadCode(index, place, step)
    if not is_tuple(handlers, 0, 4):
        raise BadHandlers(index, place, None)
    row = bad_handler(classes, len(code), handlers)
    if row is not None:
        raise BadHandlers(index, place, row)


def check_shells(classes, parts):
    """Raises the first error of classes, but for what stands behind the outs of their methods of so many parts."""
    check_names(classes)
    for index, row in enumerate(classes):
        if not are_fields(classes, row[1], row[2]):
            raise BadFields(index)
        check_methods(classes, index, parts)


def check_classes(classes):
    """Raises the first error of classes that make no house."""
    check_shells(classes, 5)
    # Codes name fields and methods of whichever class, so all of those are looked at first.
    for index, row in enumerate(classes):
        for place in range(len(row[3])):
            check_code(classes, index, place)


class House:
    """A house of classes; its parts are all looked at when it is made."""

    def __init__(self, classes):
        check_classes(classes)
        self._classes = classes

    @property
    def classes(self):
        """The tuple of the classes."""
        return self._classes

    def __eq__(self, other):
        return isinstance(other, House) and self._classes == other._classes
