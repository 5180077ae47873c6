"""Books by chance, and what they do told by Python's own calls, to compare with what the package tells."""

from helpers import Maker, seen_words, uppers

from classhouse.trees import Book


class Wrong(Exception):
    pass


class Thrown(Exception):
    pass


class Given(Exception):
    pass


class Many(Exception):
    pass


class Teller:
    """Does the methods of a book one within the other, as Python calls."""

    def __init__(self, book):
        self.book = book
        self.printed, self.things, self.heap = [], [], []
        self.begun = self.bodies = 0

    def count(self):
        self.begun += 1
        if self.begun > 300:
            raise Many(300)

    def make(self, name):
        self.things.append(name)
        self.heap.append({word: 0 if kind == "num" else None for word, kind in fields_plainly(self.book, name)})
        return "thing", len(self.things) - 1

    def fault(self):
        raise Thrown(self.make("top"))

    def is_of(self, thing, name):
        return name in uppers(self.book, self.things[thing[1]])

    def number(self, value):
        if not isinstance(value, int):
            raise Wrong
        return value

    def no_number(self, value):
        if isinstance(value, int):
            raise Wrong
        return value

    def thing(self, value, name):
        if self.no_number(value) is None:
            self.fault()
        if not self.is_of(value, name):
            raise Wrong
        return value

    def fit(self, value, kind):
        if isinstance(value, int) != (kind == "num"):
            raise Wrong
        if value is not None and kind != "num" and not self.is_of(value, kind):
            raise Wrong
        return value

    def work(self, tree, cells):
        self.count()
        word, parts = tree[0], tree[1:]
        if word == "num":
            return parts[0]
        if word == "none":
            return None
        if word == "new":
            return self.make(parts[0])
        if word == "at":
            if cells[parts[0]] == "unset":
                raise Wrong
            return cells[parts[0]]
        if word in ("add", "less", "same"):
            one, other = [self.work(part, cells) for part in parts]
            check = self.no_number if word == "same" else self.number
            check(one), check(other)
            return (one + other) % 16 if word == "add" else int(one < other if word == "less" else one == other)
        if word == "call":
            return self.call(parts, cells)
        value = self.work(parts[-1], cells)
        if word == "get":
            return self.heap[self.thing(value, parts[0])[1]][parts[1]]
        right = self.no_number(value) is not None and self.is_of(value, parts[0])
        if word == "is":
            return int(right)
        if value is not None and not right:
            self.fault()
        return value

    def call(self, parts, cells):
        name, word, tree, more = parts
        thing = self.work(tree, cells)
        values = [self.work(part, cells) for part in more]
        self.thing(thing, name)
        for value, kind in zip(values, method_plainly(self.book, name, word)[1]):
            self.fit(value, kind)
        return self.do_method(method_plainly(self.book, self.things[thing[1]], word), thing, values)

    def do_method(self, method, thing, values):
        if self.bodies == 20:
            raise Many(20)
        self.bodies += 1
        try:
            self.do_body(method[3], ([thing, *values] + ["unset"] * 3)[:4])
            return 0 if method[2] == "num" else None
        except Given as error:
            return self.fit(error.args[0], method[2])
        finally:
            self.bodies -= 1

    def do_body(self, body, cells):
        for statement in body:
            self.count()
            self.do_statement(statement, cells)

    def do_statement(self, statement, cells):
        word, parts = statement[0], statement[1:]
        if word == "set":
            cells[parts[0]] = self.work(parts[1], cells)
        elif word == "put":
            thing, value = [self.work(part, cells) for part in parts[2:]]
            kinds = dict(fields_plainly(self.book, parts[0]))
            self.heap[self.thing(thing, parts[0])[1]][parts[1]] = self.fit(value, kinds[parts[1]])
        elif word == "while":
            while self.number(self.work(parts[0], cells)):
                self.do_body(parts[1], cells)
        elif word == "if":
            self.do_body(parts[1] if self.number(self.work(parts[0], cells)) else parts[2], cells)
        elif word == "try":
            self.do_try(parts, cells)
        else:
            self.do_simple(word, self.work(parts[0], cells))

    def do_simple(self, word, value):
        if word == "print":
            self.printed.append(self.number(value))
        elif word == "give":
            raise Given(value)
        elif word == "throw":
            raise Thrown(self.thing(value, "top"))

    def do_try(self, parts, cells):
        body, name, local, other = parts
        try:
            self.do_body(body, cells)
            return
        except Thrown as error:
            thing = error.args[0]
            if not self.is_of(thing, name):
                raise
        cells[local] = thing
        self.do_body(other, cells)


def row_plainly(book, name):
    return [row for row in book.classes if row[0] == name][0]


def fields_plainly(book, name):
    found = []
    for upper in uppers(book, name)[:-1][::-1]:
        found.extend(row_plainly(book, upper)[2])
    return found


def method_plainly(book, name, word):
    for upper in uppers(book, name)[:-1]:
        for method in row_plainly(book, upper)[3]:
            if method[0] == word:
                return method
    return None


def told_plainly(book, name, word, values):
    """The pair (end, prints), or the most of which there are more."""
    teller = Teller(book)
    try:
        value = teller.do_method(method_plainly(book, name, word), teller.make(name), list(values))
        end = ("gives", value)
    except Thrown as error:
        end = ("throws", teller.things[error.args[0][1]])
    except Wrong:
        end = ("wrong",)
    except Many as error:
        return error.args[0]
    return end, tuple(teller.printed)


class BookMaker(Maker):
    """Makes books by chance, the same ones each time for a seed."""

    def tree(self, book, kind, cells, room):
        """An expression that mostly has a kind; cells are the kinds of the locals, None where there is none."""
        pick = self.chance.choice
        names = [row[0] for row in book.classes] + ["top"]
        if self.chance.random() < 0.02:
            kind = pick(names + ["num"])
        shape = pick(["leaf", "leaf", "make", "call", "get"]) if room > 0 else "leaf"
        fields = [(name, word) for name in names for word, own in fields_plainly(book, name) if own == kind] \
            if shape == "get" else []
        if fields:
            name, word = pick(fields)
            return ("get", name, word, self.tree(book, name, cells, room - 1))
        calls = [(name, word) for name in names for word in seen_words(book, name, True)
                 if shape == "call" and method_plainly(book, name, word)[2] == kind]
        if calls:
            name, word = pick(calls)
            ins = method_plainly(book, name, word)[1]
            return ("call", name, word, self.tree(book, name, cells, room - 1),
                    tuple(self.tree(book, one, cells, room - 1) for one in ins))
        if shape == "make":
            return self.made(book, kind, cells, room)
        known = [at for at, own in enumerate(cells) if own == kind or kind == "top" and own not in (None, "num")]
        if known and self.chance.random() < 0.6:
            return ("at", pick(known))
        if self.chance.random() < 0.03:
            return ("at", self.chance.randint(0, 3))
        if kind == "num":
            return ("num", self.chance.randint(0, 15))
        return ("new", kind) if self.chance.random() < 0.8 else ("none",)

    def made(self, book, kind, cells, room):
        """An expression with others in it."""
        pick = self.chance.choice
        names = [row[0] for row in book.classes] + ["top"]
        if kind != "num":
            return ("cast", kind, self.tree(book, pick([kind, pick(names)]), cells, room - 1))
        word = pick(["add", "add", "less", "same", "is"])
        inner = "num" if word in ("add", "less") else pick(names)
        trees = tuple(self.tree(book, inner, cells, room - 1) for _ in range(1 if word == "is" else 2))
        return ("is", pick(names), *trees) if word == "is" else (word, *trees)

    def body(self, book, out, cells, room, most):
        """A body of at most so many statements."""
        return tuple(self.statement(book, out, cells, room) for _ in range(self.chance.randint(0, most)))

    def statement(self, book, out, cells, room):
        pick = self.chance.choice
        names = [row[0] for row in book.classes] + ["top"]
        words = ["set", "put", "print", "print", "do", "give", "throw"]
        word = pick(words + ["if", "if", "while", "try", "try"] if room > 0 else words)
        if word == "set":
            local, kind = self.chance.randint(1, 3), pick(["num", "num"] + names)
            tree = self.tree(book, kind, cells, room)
            cells[local] = kind
            return (word, local, tree)
        if word == "put":
            fields = [(name, *field) for name in names for field in fields_plainly(book, name)]
            if fields:
                name, field, kind = pick(fields)
                return (word, name, field, self.tree(book, name, cells, room), self.tree(book, kind, cells, room))
            word = "print"
        if word in ("print", "do", "give", "throw"):
            kind = {"print": "num", "do": pick(names + ["num"]), "give": out, "throw": pick(names)}[word]
            return (word, self.tree(book, kind, cells, room))
        if word == "if":
            return (word, self.tree(book, "num", cells, 1), self.body(book, out, list(cells), room - 1, 2),
                    self.body(book, out, list(cells), room - 1, 1))
        if word == "while":
            local = self.chance.randint(1, 3)
            count = ("set", local, ("add", ("at", local), ("num", 1)))
            cells = list(cells)
            cells[local] = "num"
            return (word, ("less", ("at", local), ("num", self.chance.randint(0, 6))),
                    self.body(book, out, cells, room - 1, 2) + (count,))
        local, name = self.chance.randint(1, 3), pick(names)
        inner = list(cells)
        inner[local] = name
        return (word, self.body(book, out, list(cells), room - 1, 2), name, local,
                self.body(book, out, inner, room - 1, 1))

    def book(self, room=2, most=4):
        """A book whose trees stand not much deeper than room within bodies of at most so many statements."""
        shell = tuple((name, upper, fields, tuple(method[:3] + ((),) for method in methods))
                      for name, upper, fields, methods in self.shell())
        bare = Book(shell)
        rows = []
        for name, upper, fields, methods in shell:
            made = []
            for word, ins, out, _ in methods:
                cells = ([name, *ins] + [None] * 3)[:4]
                made.append((word, ins, out, self.body(bare, out, cells, room, most)))
            rows.append((name, upper, fields, tuple(made)))
        return Book(tuple(rows))

    def values(self, ins):
        return tuple(self.chance.randint(0, 15) if kind == "num" else None for kind in ins)
