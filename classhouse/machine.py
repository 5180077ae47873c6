"""The machine that does the steps of runs (points 11 to 13)."""

from classhouse.checks import check_seen
from classhouse.errors import BadIns
from classhouse.lookup import field_kind, fields_up, line_up, method_at, nearest, nearest_method
from classhouse.steps import covers
from classhouse.words import is_number, is_tuple


class WentWrong(Exception):
    """The step that is being done goes wrong."""


class HadFault(Exception):
    """The step that is being done makes a fault."""


class Machine:
    """A run: its things, and its frames, of which only the uppermost one is not yet a tuple as in states."""

    def __init__(self, classes):
        self.class_rows = classes
        self.things = []
        self.heap = []
        self.held = []
        self.printed = []
        self.calls = []
        self.thrown = []
        self.met = {}
        self.done = 0
        self.end = None
        self.below = []
        self.name = ""
        self.place = 0
        self.step = 0
        self.cells = []
        self.stack = []

    def method(self):
        """The method of the uppermost frame."""
        return method_at(self.class_rows, self.name, self.place)

    def go_into(self, name, place, values):
        """Makes the uppermost frame one of this method, with values in its first locals."""
        self.name = name
        self.place = place
        self.step = 0
        self.cells = [*values] + ["unset"] * (4 - len(values))
        self.stack = []
        self.calls.append((name, place))

    def fall_back(self):
        """Ends the uppermost frame, behind which the one below it stands at its call."""
        self.name, self.place, self.step, cells, stack = self.below.pop()
        self.cells = list(cells)
        self.stack = list(stack)

    def make_thing(self, name):
        """Makes a thing of a class, and returns it."""
        pairs = fields_up(self.class_rows, name)
        self.things.append(name)
        self.heap.append({word: 0 if kind == "num" else None for word, kind in pairs})
        self.held.append(0)
        return "thing", len(self.things) - 1

    def line_of_thing(self, thing):
        """The upward of the class of a thing."""
        return line_up(self.class_rows, self.things[thing[1]])

    def need(self, holds):
        """Goes wrong unless what the step needs holds."""
        if not holds:
            raise WentWrong("what the step needs does not hold")

    def lay(self, value):
        """Pushes a value."""
        self.need(len(self.stack) < 6)
        self.stack.append(value)

    def take_off(self):
        """Pops a value."""
        self.need(self.stack)
        return self.stack.pop()

    def take_number(self):
        """Pops a number."""
        value = self.take_off()
        self.need(isinstance(value, int))
        return value

    def take_thing(self, name):
        """Pops a thing of which a class is in its class's upward."""
        value = self.take_off()
        self.need(not isinstance(value, int))
        if value is None:
            raise HadFault("None in the place of a thing")
        self.need(name in self.line_of_thing(value))
        return value

    def need_fit(self, value, kind):
        """Goes wrong unless a value fits a kind."""
        self.need(does_value_fit(self.class_rows, self.things, value, kind))

    def throw(self, thing):
        """Throws a thing: the run goes on at a handler's goal, or ends."""
        line = self.line_of_thing(thing)
        ahead = len(self.below) + 1
        goal = goal_of(self.method()[4], self.step, line)
        while goal is None and self.below:
            self.fall_back()
            goal = goal_of(self.method()[4], self.step, line)
        if goal is None:
            self.end = ("throws", line[0])
        else:
            self.step = goal
            self.stack = [thing]
        self.thrown.append((self.done, line[0], ahead, 0 if goal is None else len(self.below) + 1))


def frame_of(machine):
    """The uppermost frame of a run as it stands in states."""
    return machine.name, machine.place, machine.step, tuple(machine.cells), tuple(machine.stack)


def state_of(machine):
    """The state of a run that has not ended."""
    return (*machine.below, frame_of(machine))


def does_value_fit(classes, things, value, kind):
    """Tells whether a value fits a kind, things being the classes of all things."""
    if isinstance(value, int):
        return kind == "num"
    if value is None:
        return kind != "num"
    return kind in line_up(classes, things[value[1]])


def goal_of(handlers, step, line):
    """The goal of the first handler that catches, at a step, a thing with this upward, None if none does."""
    for row in handlers:
        if covers(row, step) and row[2] in line:
            return row[3]
    return None


def do_push(machine, step):
    machine.lay(step[1])


def do_none(machine, step):
    machine.lay(None)


def do_take(machine, step):
    value = machine.cells[step[1]]
    machine.need(value != "unset")
    machine.lay(value)


def do_keep(machine, step):
    machine.cells[step[1]] = machine.take_off()


def do_add(machine, step):
    second, first = machine.take_off(), machine.take_off()
    machine.need(isinstance(first, int) and isinstance(second, int))
    machine.lay((first + second) % 16)


def do_less(machine, step):
    second, first = machine.take_off(), machine.take_off()
    machine.need(isinstance(first, int) and isinstance(second, int))
    machine.lay(1 if first < second else 0)


def do_same(machine, step):
    second, first = machine.take_off(), machine.take_off()
    machine.need(not isinstance(first, int) and not isinstance(second, int))
    machine.lay(1 if first == second else 0)


def do_new(machine, step):
    # The thing is made even if there is no room for it on the stack.
    thing = machine.make_thing(step[1])
    machine.lay(thing)


def do_get(machine, step):
    thing = machine.take_thing(step[1])
    machine.lay(machine.heap[thing[1]][step[2]])


def do_put(machine, step):
    value = machine.take_off()
    thing = machine.take_thing(step[1])
    machine.need_fit(value, field_kind(machine.class_rows, step[1], step[2]))
    # The fields of a thing are never changed in place, so that machines may share them.
    machine.heap[thing[1]] = {**machine.heap[thing[1]], step[2]: value}


def do_copy(machine, step):
    machine.need(machine.stack)
    machine.lay(machine.stack[-1])


def do_drop(machine, step):
    machine.take_off()


def do_cast(machine, step):
    machine.need(machine.stack)
    value = machine.stack[-1]
    machine.need(not isinstance(value, int))
    if value is not None and step[1] not in machine.line_of_thing(value):
        raise HadFault("a thing of another class")


def do_is(machine, step):
    value = machine.take_off()
    machine.need(not isinstance(value, int))
    machine.lay(1 if value is not None and step[1] in machine.line_of_thing(value) else 0)


def do_print(machine, step):
    machine.printed.append(machine.take_number())


def do_enter(machine, step):
    thing = machine.take_thing("top")
    machine.held[thing[1]] += 1


def do_leave(machine, step):
    thing = machine.take_thing("top")
    machine.held[thing[1]] -= 1


def do_go(machine, step):
    machine.step = step[1]


def do_if(machine, step):
    machine.step = machine.step + 1 if machine.take_number() == 0 else step[1]


def do_call(machine, step):
    kinds = nearest_method(machine.class_rows, step[1], step[2])[1]
    values = []
    for _ in kinds:
        values.insert(0, machine.take_off())
    thing = machine.take_thing(step[1])
    for value, kind in zip(values, kinds):
        machine.need_fit(value, kind)
    machine.below.append(frame_of(machine))
    name, place = nearest(machine.class_rows, machine.things[thing[1]], step[2])
    machine.go_into(name, place, (thing, *values))


def do_give(machine, step):
    answer = machine.take_off()
    machine.need_fit(answer, machine.method()[2])
    if machine.below:
        machine.fall_back()
        machine.lay(answer)
        machine.step += 1
    else:
        machine.end = ("gives", answer)


def do_throw(machine, step):
    machine.throw(machine.take_thing("top"))


# The steps behind which the next one comes.
PLAIN_DEEDS = {
    "push": do_push,
    "none": do_none,
    "take": do_take,
    "keep": do_keep,
    "add": do_add,
    "less": do_less,
    "same": do_same,
    "new": do_new,
    "cast": do_cast,
    "is": do_is,
    "get": do_get,
    "put": do_put,
    "enter": do_enter,
    "leave": do_leave,
    "copy": do_copy,
    "drop": do_drop,
    "print": do_print,
}

# The steps that tell themselves which one comes next.
TURNING_DEEDS = {
    "call": do_call,
    "go": do_go,
    "if": do_if,
    "give": do_give,
    "throw": do_throw,
}


def do_deed(machine, step):
    """Does a step, and lets the next one come."""
    if step[0] in PLAIN_DEEDS:
        deed = PLAIN_DEEDS[step[0]]
        deed(machine, step)
        machine.step += 1
    else:
        deed = TURNING_DEEDS[step[0]]
        deed(machine, step)


def do_step(machine):
    """Does the next step of a run that has not ended."""
    machine.done += 1
    machine.met[(machine.name, machine.place, machine.step)] = True
    try:
        do_deed(machine, machine.method()[3][machine.step])
    except WentWrong:
        machine.end = ("wrong", machine.name, machine.place, machine.step)
    except HadFault:
        machine.throw(machine.make_thing("top"))


def is_first_value(value):
    """Tells whether any value is one that the ins of a run may have."""
    if is_tuple(value, 2, 2):
        return value[0] == "thing" and is_number(value[1], 0)
    return value is None or is_number(value, 15)


def are_ins(classes, name, kinds, ins):
    """Tells whether any value can be the ins of a run that begins with a thing of a class."""
    if not is_tuple(ins, len(kinds), len(kinds)) or not all([is_first_value(value) for value in ins]):
        return False
    return all([does_value_fit(classes, (name,), value, kind) for value, kind in zip(ins, kinds)])


def begun(house, name, word, ins):
    """The machine of a run ahead of its first step."""
    check_seen(house, name, word)
    classes = house.classes
    if not are_ins(classes, name, nearest_method(classes, name, word)[1], ins):
        raise BadIns("the ins do not go with the method")
    machine = Machine(classes)
    upper, place = nearest(classes, name, word)
    machine.go_into(upper, place, (machine.make_thing(name), *ins))
    return machine


def machine_like(machine):
    """A machine that stands as another one, and goes on by itself."""
    other = Machine(machine.class_rows)
    other.things = list(machine.things)
    other.heap = list(machine.heap)
    other.held = list(machine.held)
    other.printed = list(machine.printed)
    other.calls = list(machine.calls)
    other.thrown = list(machine.thrown)
    other.met = {spot: True for spot in machine.met}
    other.done = machine.done
    other.end = machine.end
    other.below = list(machine.below)
    other.name = machine.name
    other.place = machine.place
    other.step = machine.step
    other.cells = list(machine.cells)
    other.stack = list(machine.stack)
    return other
