"""Books that are compiled: points 1, 44 and 46."""

import unittest

from books import BookMaker, method_plainly, seen_words
from helpers import FAMILY, PAGES, STRAY, Raising, pages_with, strays

from classhouse.compiling import code_size, compiled, handler_count, stack_need
from classhouse.errors import BadPlace, NoBook, TooLarge, TooMany
from classhouse.houses import House
from classhouse.meaning import meaning
from classhouse.runs import prints, run
from classhouse.trees import Book

SELF, NONE = ("at", 0), ("none",)
DROP = ("do", ("num", 1))
PAUSE = ("try", (), "top", 1, (("print", NONE), ("try", (("throw", NONE),), "top", 1, ()),
                               ("do", ("add", ("num", 1), ("add", ("num", 1), ("num", 1))))))


def num(value):
    return "num", value


def all_told(body, ins=(), out="num"):
    """What the three functions tell of a method with this body."""
    book = Book(pages_with(body, ins, out))
    return code_size(book, 0, 2), handler_count(book, 0, 2), stack_need(book, 0, 2)


def tall(height):
    """An expression for which so many values stand at most."""
    tree = num(1)
    for _ in range(height - 1):
        tree = ("add", num(1), tree)
    return tree


def size_of(tree):
    """How many steps an expression needs, as the document tells it."""
    if tree[0] in ("num", "none", "at", "new"):
        return 1
    inner = tree[-1:] if tree[0] in ("cast", "is", "get") else tree[1:]
    if tree[0] == "call":
        inner = (tree[3], *tree[4])
    return 1 + sum(size_of(one) for one in inner)


def size_of_body(body):
    return sum(size_of_statement(statement) for statement in body)


def size_of_statement(statement):
    word = statement[0]
    if word == "try":
        body = size_of_body(statement[1])
        return 2 + body + size_of_body(statement[4]) if body else 0
    if word in ("if", "while"):
        return 2 + size_of(statement[1]) + sum(size_of_body(body) for body in statement[2:])
    trees = {"set": statement[2:], "put": statement[3:]}.get(word, statement[1:])
    return 1 + sum(size_of(tree) for tree in trees)


def size_of_method(method):
    body = method[3]
    return size_of_body(body) + (0 if body and body[-1][0] in ("give", "throw") else 2)


def handlers_of(body):
    """How many tries need a handler, as the document tells it."""
    many = 0
    for statement in body:
        if statement[0] == "try" and size_of_body(statement[1]):
            many += 1 + handlers_of(statement[1]) + handlers_of(statement[4])
        elif statement[0] in ("if", "while"):
            many += sum(handlers_of(inner) for inner in statement[2:])
    return many


def height_of_code(method):
    """How many values stand at most in the code of a method, by its steps in all ways."""
    code, handlers = method[3:]
    met, todo, most = set(), [(0, 0)], 0
    while todo:
        step, height = todo.pop()
        if (step, height) in met:
            continue
        met.add((step, height))
        most = max(most, height)
        word = code[step][0]
        # What a call takes is told by the caller of this function.
        change = {"push": 1, "none": 1, "take": 1, "new": 1, "add": -1, "less": -1, "same": -1, "cast": 0, "is": 0,
                  "get": 0, "put": -2, "keep": -1, "drop": -1, "print": -1, "if": -1, "go": 0, "give": -1,
                  "throw": -1}.get(word, 0)
        change = -code[step][3] if word == "call" else change
        if word in ("go", "if"):
            todo.append((code[step][1], height + change))
        if word not in ("go", "give", "throw"):
            todo.append((step + 1, height + change))
        todo.extend((row[3], 1) for row in handlers if row[0] <= step < row[1])
    return most


def code_with_ins(book, method):
    """A method whose calls tell behind their names how many ins they take."""
    code = tuple(step + (len(method_plainly(book, step[1], step[2])[1]),) if step[0] == "call" else step
                 for step in method[3])
    return method[:3] + (code,) + method[4:]


class CountTest(unittest.TestCase, Raising):
    def test_expressions(self):
        for tree, size, need in [(num(1), 1, 1), (NONE, 1, 1), (SELF, 1, 1), (("new", "egg"), 1, 1),
                                 (("add", num(1), num(2)), 3, 2), (("less", num(1), ("add", num(1), num(2))), 5, 3),
                                 (("less", ("add", num(1), num(2)), num(1)), 5, 2), (("same", SELF, NONE), 3, 2),
                                 (("cast", "box", SELF), 2, 1), (("is", "box", SELF), 2, 1),
                                 (("get", "box", "x", SELF), 2, 1), (("call", "box", "show", SELF, ()), 2, 1),
                                 (("call", "box", "hop", SELF, (num(1), NONE)), 4, 3),
                                 (("call", "box", "hop", SELF, (num(1), ("call", "box", "hop", SELF, (num(1), NONE)))),
                                  7, 5)]:
            self.assertEqual(all_told((("give", tree),)), (size + 1, 0, need), tree)
            self.assertEqual(all_told((("do", tree),)), (size + 3, 0, need), tree)

    def test_statements(self):
        for statement, size, handlers, need in [
                (("set", 1, num(1)), 2, 0, 1), (("put", "box", "x", SELF, num(1)), 3, 0, 2),
                (("put", "box", "x", SELF, tall(3)), 7, 0, 4), (("put", "box", "x", SELF, tall(1)), 3, 0, 2),
                (("print", num(1)), 2, 0, 1), (("do", num(1)), 2, 0, 1), (("if", num(1), (), ()), 3, 0, 1),
                (("if", tall(2), (DROP,), (("do", tall(3)),)), 13, 0, 3), (("while", num(1), ()), 3, 0, 1),
                (("while", tall(2), (("do", tall(4)),)), 13, 0, 4), (("try", (DROP,), "top", 1, ()), 4, 1, 1),
                (("try", (("do", tall(2)),), "top", 1, (("do", tall(3)),)), 12, 1, 3), (PAUSE, 0, 0, 1)]:
            self.assertEqual(all_told((statement,)), (size + 2, handlers, need), statement)
            self.assertEqual(all_told((statement, ("give", num(1)))), (size + 2, handlers, need), statement)

    def test_the_end_of_a_body(self):
        self.assertEqual(all_told(()), (2, 0, 1))
        self.assertEqual(all_told((), (), "box"), (2, 0, 1))
        self.assertEqual(all_told((("give", num(1)),)), (2, 0, 1))
        self.assertEqual(all_told((("throw", SELF),)), (2, 0, 1))
        self.assertEqual(all_told((("give", num(1)), ("print", num(1)))), (6, 0, 1))
        self.assertEqual(all_told((("give", num(1)), PAUSE)), (4, 0, 1))
        self.assertEqual(all_told((("if", num(1), (("give", num(1)),), (("give", num(2)),)),)), (9, 0, 1))

    def test_tries_that_need_nothing(self):
        for body in [(), (PAUSE,), (PAUSE, ("try", (PAUSE, PAUSE), "egg", 2, (DROP,)))]:
            statement = ("try", body, "top", 1, (("do", tall(5)), ("try", (DROP,), "top", 1, ())))
            self.assertEqual(all_told((statement, ("give", num(1)))), (2, 0, 1))
        # One of whose bodies the second alone needs steps needs a handler when the first one gets a step.
        self.assertEqual(all_told((("try", (PAUSE, DROP), "top", 1, (("do", tall(5)), PAUSE)),)), (16, 1, 5))

    def test_handlers_within_handlers(self):
        inner = ("try", (DROP,), "top", 1, (("try", (DROP,), "egg", 2, ()),))
        self.assertEqual(all_told((inner,)), (10, 2, 1))
        self.assertEqual(all_told((("while", num(1), (("if", num(1), (inner,), (inner,)),)),)), (24, 4, 1))

    def test_as_the_document_counts(self):
        for seed in range(150):
            book = BookMaker(seed).book(3)
            for index, row in enumerate(book.classes):
                for place, method in enumerate(row[3]):
                    self.assertEqual(code_size(book, index, place), size_of_method(method))
                    self.assertEqual(handler_count(book, index, place), handlers_of(method[3]))

    def test_other_methods(self):
        self.assertEqual([code_size(Book(PAGES), index, place) for index, place in [(0, 0), (0, 1), (1, 0), (2, 0)]],
                         [2] * 4)

    def test_wrong_places(self):
        for function in (code_size, handler_count, stack_need):
            for value in STRAY + [PAGES, House(FAMILY)]:
                self.raises(NoBook, function, value, None, None)
            for value in strays() + [3, "box", -1]:
                self.raises(BadPlace, function, Book(PAGES), value, 0)
                self.raises(BadPlace, function, Book(PAGES), 0, value)
            self.raises(BadPlace, function, Book(PAGES), 1, 1)
            self.raises(BadPlace, function, Book((("box", "top", (), ()),)), 0, 0)
            self.raises(BadPlace, function, Book(PAGES), False, 0)
            self.raises(BadPlace, function, Book(PAGES), 0, True)


class LimitTest(unittest.TestCase, Raising):
    def large(self, body, ins=()):
        self.raises(TooLarge, compiled, Book(pages_with(body, ins)), index=0, place=2)

    def runs(self, body, end, printed=()):
        house = compiled(Book(pages_with(body)))
        self.assertEqual([run(house, "box", "test", ()), prints(house, "box", "test", ())], [end, printed])

    def test_just_twenty_steps_and_more(self):
        self.runs((DROP,) * 9, ("gives", 0))
        self.runs((("print", num(3)),) * 9 + (("give", num(4)),), ("gives", 4), (3,) * 9)
        self.large((DROP,) * 9 + (("set", 1, num(1)),))
        self.large((DROP,) * 9 + (("print", num(1)), ("give", num(4))))
        self.large((DROP,) * 8 + (("do", ("cast", "top", SELF)), ("give", num(4)), ("give", num(4))))

    def test_four_handlers_and_five(self):
        one = ("try", (PAUSE, ("give", num(3))), "top", 1, ())
        self.runs((one,) * 4, ("gives", 3))
        self.large((one,) * 5)
        # Of the five tries the first body of one needs nothing.
        self.runs((one,) * 4 + (PAUSE,), ("gives", 3))
        deep = ("give", num(5))
        for _ in range(4):
            deep = ("try", (deep,), "top", 1, ())
        self.runs((deep,), ("gives", 5))
        self.assertEqual(all_told((deep, one)), (16, 5, 1))
        self.large((deep, one))

    def test_six_values_and_seven(self):
        self.assertEqual(all_told((("give", tall(6)),)), (12, 0, 6))
        self.runs((("give", tall(6)),), ("gives", 6))
        self.assertEqual(all_told((("give", tall(7)),)), (14, 0, 7))
        self.large((("give", tall(7)),))
        # What can never be done counts, too; but what a try that needs nothing leaves out does not.
        self.large((("give", num(1)), ("print", tall(7))))
        self.runs((("try", (), "top", 1, (("print", tall(7)),)), ("give", num(1))), ("gives", 1))

    def test_the_first_method_is_told(self):
        big = (DROP,) * 10
        rows = pages_with(big, (), "num", "egg")
        self.raises(TooLarge, compiled, Book(rows), index=2, place=1)
        rows = (rows[0], rows[1][:3] + (rows[1][3] + (("more", (), "num", (("give", tall(7)),)),),), rows[2])
        self.raises(TooLarge, compiled, Book(rows), index=1, place=1)
        rows = (rows[0][:3] + ((("a", (), "num", ()), ("b", (), "num", big), ("c", (), "num", big)),), *rows[1:])
        self.raises(TooLarge, compiled, Book((("box", "top", *rows[0][2:]),)), index=0, place=1)

    def test_no_book(self):
        self.strays_raise(NoBook, compiled, STRAY + [PAGES, House(FAMILY)])


class CompiledTest(unittest.TestCase):
    def compare(self, book, name, word, values, house):
        """Asks that the run ends as the meaning tells, and returns how; None for too many."""
        try:
            end, printed = meaning(book, name, word, values)
        except TooMany:
            return None
        found = run(house, name, word, values)
        self.assertEqual(found[:1] if found[0] == "wrong" else found, end, (book.classes, name, word, values))
        self.assertEqual(prints(house, name, word, values), printed)
        return end[0]

    def all_values(self, ins):
        rows = [()]
        for kind in ins:
            rows = [(*row, value) for row in rows for value in ((0, 1, 2, 5, 14, 15) if kind == "num" else (None,))]
        return rows

    def compare_all(self, book):
        """Compares all methods with many values, and returns how many runs ended each way."""
        house, ends = compiled(book), {}
        for name, _, _, _ in book.classes:
            for word in seen_words(book, name, True):
                for values in self.all_values(method_plainly(book, name, word)[1]):
                    end = self.compare(book, name, word, values, house)
                    ends[end] = ends.get(end, 0) + 1
        return ends

    def test_classes_fields_and_methods_stay(self):
        house = compiled(Book(PAGES))
        self.assertIsInstance(house, House)
        self.assertEqual([row[:3] for row in house.classes], [row[:3] for row in PAGES])
        self.assertEqual([[method[:3] for method in row[3]] for row in house.classes],
                         [[method[:3] for method in row[3]] for row in PAGES])

    def test_by_hand(self):
        loop = ("while", ("less", ("at", 1), num(3)), (("print", ("at", 1)), ("set", 1, ("add", ("at", 1), num(1)))))
        for body, ins in [
                ((loop, ("give", ("at", 1))), ("num",)), ((("while", ("at", 1), (("give", num(7)),)),), ("num",)),
                ((("if", ("at", 1), (("print", num(1)),), (("print", num(2)), ("throw", SELF))),), ("num",)),
                ((("if", ("at", 1), (), ()), ("if", ("at", 2), (("give", num(3)),), ())), ("num", "num")),
                ((("try", (("throw", NONE), ("print", num(1))), "top", 2, (("print", ("at", 1)),)),), ("num",)),
                ((("try", (("print", ("add", num(1), ("get", "box", "x", ("at", 1)))),), "top", 1,
                   (("print", num(4)),)),), ("box",)),
                ((("try", (("try", (("throw", ("new", "red")),), "egg", 1, ()),), "box", 2, (("give", ("at", 2)),)),), ()),
                ((("try", (loop, ("throw", SELF)), "red", 1, ()),), ("num",)), ((("set", 0, num(1)), ("print", SELF)), ()),
                ((("put", "box", "x", SELF, ("at", 1)), ("give", ("get", "box", "x", SELF))), ("num",)),
                ((("put", "box", "y", SELF, ("at", 1)), ("give", NONE)), ("box",)),
                ((("give", ("call", "box", "show", ("new", "red"), ())),), ()), ((), ("num",)), ((PAUSE,), ()),
                ((("give", ("call", "box", "hop", SELF, (("at", 1), ("at", 2)))),), ("num", "box")),
                ((("print", ("same", SELF, SELF)), ("print", ("is", "red", SELF)), ("give", ("cast", "red", SELF))), ())]:
            for out in ("num", "box", "top"):
                self.compare_all(Book(pages_with(body, ins, out)))

    def test_a_fault_in_a_method_called(self):
        hop = ("hop", ("num",), "num", (("if", ("at", 1), (("throw", ("new", "red")),), (("throw", SELF),)),))
        body = (("try", (("give", ("call", "box", "hop", SELF, (("at", 1),))),), "red", 2, (("give", num(7)),)),)
        book = Book((("box", "top", (), (hop, ("test", ("num",), "num", body))), ("red", "box", (), ())))
        self.assertEqual(self.compare_all(book), {"throws": 13, "gives": 11})

    def test_by_chance(self):
        ends, houses, tall_ones = {}, 0, 0
        for seed in range(500):
            book = BookMaker(seed).book(2, 3)
            try:
                house = compiled(book)
            except TooLarge as error:
                self.check_large(book, error.index, error.place)
                continue
            houses += 1
            self.check_codes(book, house)
            tall_ones += max([stack_need(book, index, place) for index, row in enumerate(book.classes)
                              for place in range(len(row[3]))], default=0) > 2
            for end, many in self.compare_all(book).items():
                ends[end] = ends.get(end, 0) + many
        self.assertGreater(houses, 150)
        self.assertGreater(tall_ones, 20)
        for end in ("gives", "throws", "wrong", None):
            self.assertGreater(ends.get(end, 0), 20, ends)

    def check_codes(self, book, house):
        """Codes need just what is told; the most values stand there that may stand in some way through them."""
        for index, row in enumerate(house.classes):
            for place, method in enumerate(row[3]):
                self.assertLessEqual(len(method[3]), code_size(book, index, place))
                self.assertLessEqual(len(method[4]), handler_count(book, index, place))
                self.assertLessEqual(height_of_code(code_with_ins(book, method)), stack_need(book, index, place))

    def check_large(self, book, index, place):
        """Asks that a method is too large, and none ahead of it."""
        for at, row in enumerate(book.classes[:index + 1]):
            for many, _ in enumerate(row[3]):
                if at == index and many > place:
                    continue
                large = (code_size(book, at, many) > 20 or handler_count(book, at, many) > 4
                         or stack_need(book, at, many) > 6)
                self.assertEqual(large, (at, many) == (index, place))

    def test_another_order_of_classes_runs_the_same(self):
        moved = 0
        for seed in range(120):
            maker = BookMaker(seed)
            book = maker.book(2, 2)
            rows = list(book.classes)
            maker.chance.shuffle(rows)
            if any(row[1] not in ["top"] + [ahead[0] for ahead in rows[:at]] for at, row in enumerate(rows)):
                continue
            try:
                house, other = compiled(book), compiled(Book(tuple(rows)))
            except TooLarge:
                continue
            moved += tuple(rows) != book.classes
            for name, _, _, _ in rows:
                for word in seen_words(book, name, True):
                    for values in self.all_values(method_plainly(book, name, word)[1]):
                        if self.compare(book, name, word, values, house) is not None:
                            self.assertEqual(run(house, name, word, values)[:1], run(other, name, word, values)[:1])
        self.assertGreater(moved, 3)

    def test_books_stay(self):
        book = Book(pages_with((DROP, PAUSE)))
        classes = eval(repr(book.classes))
        self.assertTrue(compiled(book) == compiled(Book(classes)))
        self.assertEqual(book.classes, classes)


if __name__ == "__main__":
    unittest.main()
