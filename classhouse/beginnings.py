"""In which order classes begin by their uses (points 49 to 51)."""

from classhouse.checks import check_house, check_name
from classhouse.entries import entry_of
from classhouse.errors import BadName, BadRowOfNames
from classhouse.lookup import class_of, is_class

BEGIN = "begin"


def code_of_beginning(row):
    """The code of the beginning of a class, no steps if it has none."""
    for method in row[3]:
        if method[0] == BEGIN and method[1] == ():
            return method[3]
    return ()


def uses_in(classes, name):
    """The list of the classes that a class uses, in their order."""
    row = class_of(classes, name)
    entries = [entry_of(step) for step in code_of_beginning(row)]
    found = []
    for other in [row[1]] + [entry[1] for entry in entries if entry is not None]:
        if other not in ("top", name) and other not in found:
            found.append(other)
    return found


def check_begun(house, name):
    """Raises NoHouse, or BadName unless a value is a class that begins."""
    check_name(house, name)
    if name == "top":
        raise BadName("no class that begins")


def check_row(house, names):
    """Raises NoHouse, or BadRowOfNames unless any value is a list or tuple of classes that begin."""
    check_house(house)
    if not isinstance(names, (list, tuple)):
        raise BadRowOfNames(None)
    for index, name in enumerate(names):
        if name == "top" or not is_class(house.classes, name):
            raise BadRowOfNames(index)


class Order:
    """What has begun so far, what is just being begun, and which uses were met early."""

    def __init__(self, classes):
        self.rows = classes
        self.begun = []
        self.beginning = []
        self.early = []

    def begin(self, name):
        """Begins a class behind those that it uses, unless it has begun, or is being begun."""
        if name in self.begun or name in self.beginning:
            return
        self.beginning.append(name)
        for other in uses_in(self.rows, name):
            if other in self.beginning:
                self.early.append((name, other))
            self.begin(other)
        self.beginning.pop()
        self.begun.append(name)


def order_behind(classes, names):
    """The order behind some classes, begun one behind the other."""
    order = Order(classes)
    for name in names:
        order.begin(name)
    return order


def uses_of(house, name):
    """The tuple of the classes that a class uses, in their order."""
    check_begun(house, name)
    return tuple(uses_in(house.classes, name))


def order_of(house, names):
    """The tuple of the classes in the order in which they have begun behind some classes."""
    check_row(house, names)
    return tuple(order_behind(house.classes, names).begun)


def met_early(house, names):
    """The list of the pairs of a class and of one that it uses, both just being begun, when some classes begin."""
    check_row(house, names)
    return order_behind(house.classes, names).early


def led_from(classes, name):
    """The list of the classes to which a class leads by one use or more."""
    found = uses_in(classes, name)
    at = 0
    while at < len(found):
        found.extend([other for other in uses_in(classes, found[at]) if other not in found])
        at += 1
    return found


def use_rings(house):
    """The ascending list of the ascending tuples of two or more classes that all lead to one another by uses."""
    check_house(house)
    classes = house.classes
    leads = {row[0]: led_from(classes, row[0]) for row in classes}
    rings = []
    for name in sorted(leads):
        ring = tuple([other for other in sorted(leads) if other in leads[name] and name in leads[other]])
        # No class uses itself, so one that leads to itself leads to another one, too.
        if ring and ring not in rings:
            rings.append(ring)
    return rings


def is_early(house, name):
    """Tells whether a use is met early when a class begins alone."""
    check_begun(house, name)
    return bool(order_behind(house.classes, (name,)).early)


def ring_to(house, name):
    """The least of the shortest rows of uses from a class on to one that stands earlier, too, None if there is none."""
    check_begun(house, name)
    rows = [(name,)]
    # Rows of one length ascend, as each ascends that goes on from one of them.
    while rows:
        longer = [(*row, other) for row in rows for other in sorted(uses_in(house.classes, row[-1]))]
        for row in longer:
            if row[-1] in row[:-1]:
                return row
        rows = longer
    return None
