"""What several test files share."""

import os
import random
import sys

sys.path.insert(0, os.path.dirname(os.path.dirname(os.path.abspath(__file__))))

from classhouse.frames import first_frame, turns_from  # noqa: E402
from classhouse.houses import House  # noqa: E402


def deep_tuple(depth):
    """A tuple within tuples, too deep for a walk through it that calls itself."""
    value = ()
    for _ in range(depth):
        value = (value,)
    return value


DEEP = deep_tuple(3000)

# Values of every kind, none of which is a class, a word, a frame, a road, a table or the like of any test's house.
STRAY = [
    None, True, False, -1, 99, 10 ** 5000, "", " ", "Box", "boxes7", "sevenly", "é", "b x",
    (), (None,), (1, 2), (True,), ("box", 1), [], [1], ["box"], ["num"], [()], {}, {"box": 1}, {1: "box"},
    (["box"],), ({},), DEEP, House((("egg", "top", (), ()),)),
]


def strays(*kept):
    """All stray values but those that are equal to one of kept, and of its class."""
    return [value for value in STRAY if not any(value is one or (type(value) is type(one) and value == one)
                                                for one in kept)]


# Of these, the ones that are no tuples.
NO_TUPLES = [value for value in STRAY if not isinstance(value, tuple)]


def changed(value, path, part):
    """A tuple of tuples in which another part stands at a path of indexes."""
    if not path:
        return part
    return value[:path[0]] + (changed(value[path[0]], path[1:], part),) + value[path[0] + 1:]


class Raising:
    """Mixed into test cases: asks for an error of just this class, with just these fields."""

    def raises(self, error, function, *args, **fields):
        with self.assertRaises(error) as caught:
            function(*args)
        self.assertIs(type(caught.exception), error)
        self.assertEqual(vars(caught.exception), fields)
        for name, value in fields.items():
            self.assertIs(type(getattr(caught.exception, name)), type(value))

    def strays_raise(self, error, function, values=None):
        for index, value in enumerate(STRAY if values is None else values):
            with self.subTest(error=error.__name__, index=index):
                self.raises(error, function, value)


GIVE = (("push", 1), ("give",))

# Classes with fields, methods and methods below them, for many tests.
FAMILY = (
    ("box", "top", (("x", "num"), ("y", "box"), ("z", "top")),
     (("show", (), "num", GIVE, ()), ("hop", ("num", "box"), "box", (("take", 2), ("give",)), ()))),
    ("red", "box", (("w", "egg"),), (("show", (), "num", (("push", 2), ("give",)), ()),)),
    ("blue", "box", (), (("roll", ("top",), "top", (("take", 1), ("give",)), ()),)),
    ("pink", "red", (), (("hop", ("num", "box"), "box", (("none",), ("give",)), ()),)),
    ("egg", "top", (("x", "egg"),), ()),
)


def family_with(code, handlers=(), ins=(), out="num", name="box"):
    """The house of the family in which a class has as its last method one of the word "test"."""
    method = ("test", ins, out, code, handlers)
    return House(tuple([row[:3] + (row[3] + (method,),) if row[0] == name else row for row in FAMILY]))


def place_of_test(house, name="box"):
    """The place of the method "test" that family_with adds."""
    return [len(row[3]) - 1 for row in house.classes if row[0] == name][0]


def tiny(word, ins=(), out="num"):
    """A method with the shortest code."""
    return word, ins, out, (("go", 0),), ()


class Maker:
    """Makes houses by chance, the same ones each time for a seed."""

    def __init__(self, seed):
        self.chance = random.Random(seed)

    def shell(self):
        """Classes with fields and methods, whose codes are the shortest that can stand."""
        pick = self.chance.choice
        names = ["box", "red", "blue", "egg"][:self.chance.randint(1, 4)]
        kinds = names + ["num", "num", "top"]
        rows, above = [], {"top": {}}
        for index, name in enumerate(names):
            upper = pick(["top"] + names[:index])
            forms = dict(above[upper])
            methods = []
            for word in self.chance.sample(["show", "hop", "roll"], self.chance.randint(1, 2)):
                if word not in forms:
                    forms[word] = (tuple(pick(kinds) for _ in range(self.chance.randint(0, 2))), pick(kinds))
                methods.append((word, *forms[word], (("go", 0),), ()))
            above[name] = forms
            fields = tuple((name + word, pick(kinds)) for word in "xy"[:self.chance.randint(0, 2)])
            rows.append((name, upper, fields, tuple(methods)))
        return tuple(rows)

    def any_step(self, house, many):
        """A step that can stand in a code of so many steps."""
        pick, number = self.chance.choice, self.chance.randint
        while True:
            word = pick(["push", "none", "take", "take", "keep", "add", "less", "same", "new", "cast", "is", "get",
                         "put", "call", "call", "go", "if", "give", "throw", "enter", "leave", "copy", "drop", "print"])
            name = pick(["top"] + [row[0] for row in house.classes])
            if word == "push":
                return (word, number(0, 15))
            if word in ("take", "keep"):
                return (word, number(0, 3))
            if word in ("go", "if"):
                return (word, number(0, many - 1))
            if word in ("new", "cast", "is"):
                return (word, name)
            if word in ("get", "put", "call"):
                words = seen_words(house, name, word == "call")
                if words:
                    return (word, name, pick(words))
                continue
            return (word,)

    def code(self, house, name, place, most):
        """A code, each step of which mostly does not go wrong on the frame that the ones ahead made."""
        many = self.chance.randint(3, most)
        frame = first_frame(house, name, place)
        steps = []
        while len(steps) < many - 1:
            for _ in range(12):
                step = self.any_step(house, many)
                made = try_step(house, name, place, step, frame)
                if made is not None:
                    break
            steps.append(step)
            frame = frame if made is None else made
        ends = [end for end in [("give",), ("throw",)] if is_right(house, name, place, end, frame)]
        return (*steps, self.chance.choice(ends + [("go", self.chance.randint(0, many - 1))]))

    def handlers(self, house, many):
        """Up to two handlers of a code of so many steps."""
        rows = []
        for _ in range(self.chance.choice([0, 0, 1, 2])):
            begin = self.chance.randint(0, many - 1)
            rows.append((begin, self.chance.randint(begin + 1, many),
                         self.chance.choice(["top"] + [row[0] for row in house.classes]),
                         self.chance.randint(0, many - 1)))
        return tuple(rows)

    def house(self, most=9):
        """A house whose codes have at most so many steps."""
        rows = self.shell()
        for index, row in enumerate(rows):
            for place, method in enumerate(row[3]):
                shell = House(rows)
                code = self.code(shell, row[0], place, most)
                made = method[:3] + (code, self.handlers(shell, len(code)))
                rows = changed(rows, (index, 3, place), made)
        return House(rows)

    def grown(self, house):
        """A house into which another one grows by further fields and methods, and other codes."""
        rows = []
        for index, (name, upper, fields, methods) in enumerate(house.classes):
            if self.chance.randint(0, 2) == 0:
                fields = fields + ((name + "n", self.chance.choice(["num", "top", name])),)
            forms = forms_above(tuple(rows), upper)
            for word in self.chance.sample(["show", "hop", "roll", "extra"], self.chance.randint(0, 2)):
                barred = [method[0] for method in methods] + words_further(house, name)
                if word not in barred and len(methods) < 4:
                    methods = methods + (tiny(word, *forms.get(word, ())),)
            rows.append((name, upper, fields, methods))
        return House(tuple(rows))


def forms_above(rows, upper):
    """The ins and outs of the words that are seen in a class of some rows."""
    forms = {}
    while upper != "top":
        row = [row for row in rows if row[0] == upper][0]
        for method in row[3]:
            forms[method[0]] = method[1:3]
        upper = row[1]
    return forms


def words_further(house, name):
    """The words of which classes right below a class, or below these, have methods that it does not see."""
    below = [row for row in house.classes if name in uppers(house, row[0]) and row[0] != name]
    seen = seen_words(house, name, True)
    return [method[0] for row in below for method in row[3] if method[0] not in seen]


def uppers(house, name):
    """The classes from a class up to "top"."""
    line = []
    while name != "top":
        line.append(name)
        name = [row[1] for row in house.classes if row[0] == name][0]
    return line + ["top"]


def seen_words(house, name, of_methods):
    """The words of the fields, or methods, of a class and all above it."""
    words = []
    while name != "top":
        row = [row for row in house.classes if row[0] == name][0]
        words.extend(part[0] for part in row[3 if of_methods else 2])
        name = row[1]
    return sorted(set(words))


def turns_of_step(house, name, place, step, frame):
    """What turns_from tells of a step that stands in the code of a method."""
    index = [row[0] for row in house.classes].index(name)
    tried = House(changed(house.classes, (index, 3, place, 3), (step, ("give",))))
    return turns_from(tried, name, place, 0, frame)


def is_right(house, name, place, step, frame):
    """Tells whether a step does not go wrong on a frame in a method."""
    return turns_of_step(house, name, place, step, frame) is not None


def try_step(house, name, place, step, frame):
    """The frame that a step makes of a frame in a method, None if it goes wrong or makes none to go on with."""
    if step[0] in ("give", "throw", "go"):
        return None
    turns = turns_of_step(house, name, place, ("if", 1) if step[0] == "if" else step, frame)
    return turns[0][1] if turns else None


def methods_in(house):
    """The pairs (class, place) of all methods of a house."""
    return [(row[0], place) for row in house.classes for place in range(len(row[3]))]


# Classes of a book, with fields, methods and methods below them; a method "test" is added by book_with.
PAGES = (
    ("box", "top", (("x", "num"), ("y", "box"), ("z", "top")),
     (("show", (), "num", (("give", ("num", 1)),)), ("hop", ("num", "box"), "box", (("give", ("at", 2)),)))),
    ("red", "box", (("w", "egg"),), (("show", (), "num", (("give", ("num", 2)),)),)),
    ("egg", "top", (("x", "egg"),), (("roll", ("num",), "num", (("give", ("at", 1)),)),)),
)


def pages_with(body, ins=(), out="num", name="box"):
    """The classes of a book in which a class has as its last method one of the word "test"."""
    method = ("test", ins, out, body)
    return tuple([row[:3] + (row[3] + (method,),) if row[0] == name else row for row in PAGES])
