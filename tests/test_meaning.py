"""What books do: points 1, 42, 43 and 46."""

import unittest

from books import BookMaker, method_plainly, seen_words, told_plainly
from helpers import FAMILY, PAGES, STRAY, Raising, pages_with, strays

from classhouse.errors import BadName, BadValues, BadWord, NoBook, NotNumbers, TooMany
from classhouse.houses import House
from classhouse.meaning import all_meanings, meaning
from classhouse.trees import Book

SELF, NONE = ("at", 0), ("none",)


def num(value):
    return "num", value


def told(body, values=(), ins=None, out="num", name="box"):
    """What a call of a method with this body means."""
    ins = tuple("num" if isinstance(value, int) else "box" for value in values) if ins is None else ins
    return meaning(Book(pages_with(body, ins, out, name)), name, "test", values)


def noisy(value):
    """An expression that prints a number and is it, in the class box of noisy_book."""
    return "call", "box", "say", SELF, (num(value),)


SAY = ("say", ("num",), "num", (("print", ("at", 1)), ("give", ("at", 1))))


def noisy_told(body, out="num"):
    """What a body means that may call "say", which prints its in and gives it."""
    classes = (("box", "top", (("x", "num"), ("y", "box")), (SAY, ("test", (), out, body))),)
    return meaning(Book(classes), "box", "test", ())


class ExpressionTest(unittest.TestCase, Raising):
    def gives(self, tree, end, values=(), out="num"):
        """Asks for what is given, ("wrong",) or ("throws", class)."""
        self.assertEqual(told((("give", tree),), values, None, out),
                         (end if isinstance(end, tuple) and end[0] != "thing" else ("gives", end), ()))

    def test_numbers_and_none(self):
        self.gives(num(0), 0)
        self.gives(num(15), 15)
        self.gives(NONE, None, (), "box")
        self.gives(NONE, None, (), "top")

    def test_locals(self):
        self.gives(SELF, ("thing", 0), (), "box")
        self.gives(("at", 1), 7, (7, 8, 9))
        self.gives(("at", 3), 9, (7, 8, 9))
        self.gives(("at", 1), None, (None,), "box")
        for local in (1, 2, 3):
            self.gives(("at", local), ("wrong",))
        self.gives(("at", 2), ("wrong",), (7,))

    def test_add_and_less(self):
        self.gives(("add", num(9), num(9)), 2)
        self.gives(("add", num(7), num(8)), 15)
        self.gives(("less", num(3), num(4)), 1)
        self.gives(("less", num(4), num(3)), 0)
        self.gives(("less", num(4), num(4)), 0)
        for word in ("add", "less"):
            self.gives((word, num(1), NONE), ("wrong",))
            self.gives((word, SELF, num(1)), ("wrong",))

    def test_same_and_is(self):
        for one, other, value in [(SELF, SELF, 1), (NONE, NONE, 1), (SELF, NONE, 0), (("new", "box"), SELF, 0)]:
            self.gives(("same", one, other), value)
        self.gives(("same", num(1), num(1)), ("wrong",))
        self.gives(("same", SELF, num(1)), ("wrong",))
        for name, tree, value in [("box", SELF, 1), ("top", SELF, 1), ("red", SELF, 0), ("box", ("new", "red"), 1),
                                  ("top", NONE, 0), ("egg", SELF, 0)]:
            self.gives(("is", name, tree), value)
        self.gives(("is", "top", num(1)), ("wrong",))

    def test_new_and_cast(self):
        self.gives(("new", "box"), ("thing", 1), (), "box")
        self.gives(("new", "red"), ("thing", 1), (), "box")
        self.gives(("new", "egg"), ("wrong",), (), "box")
        self.gives(("cast", "box", ("new", "red")), ("thing", 1), (), "box")
        self.gives(("cast", "red", NONE), None, (), "red")
        self.gives(("cast", "red", SELF), ("throws", "top"), (), "red")
        self.gives(("cast", "red", num(1)), ("wrong",), (), "red")

    def test_get(self):
        self.gives(("get", "box", "x", SELF), 0)
        self.gives(("get", "box", "y", SELF), None, (), "box")
        self.gives(("get", "red", "x", ("new", "red")), 0)
        self.gives(("get", "box", "x", ("new", "red")), 0)
        self.gives(("get", "red", "x", SELF), ("wrong",))
        self.gives(("get", "box", "x", NONE), ("throws", "top"))
        self.gives(("get", "box", "x", num(1)), ("wrong",))

    def test_call(self):
        self.gives(("call", "box", "show", SELF, ()), 1)
        self.gives(("call", "box", "show", ("new", "red"), ()), 2)
        self.gives(("call", "red", "show", ("new", "red"), ()), 2)
        self.gives(("call", "red", "show", SELF, ()), ("wrong",))
        self.gives(("call", "box", "show", NONE, ()), ("throws", "top"))
        self.gives(("call", "box", "show", num(1), ()), ("wrong",))
        self.gives(("call", "box", "hop", SELF, (num(1), SELF)), ("thing", 0), (), "box")
        self.gives(("call", "box", "hop", SELF, (num(1), NONE)), None, (), "box")
        self.gives(("call", "box", "hop", SELF, (SELF, SELF)), ("wrong",), (), "box")
        self.gives(("call", "box", "hop", SELF, (num(1), ("new", "egg"))), ("wrong",), (), "box")
        # A FAULT comes ahead of an in that does not fit.
        self.gives(("call", "box", "hop", NONE, (SELF, SELF)), ("throws", "top"), (), "box")

    def test_from_left_to_right(self):
        self.assertEqual(noisy_told((("give", ("add", noisy(1), ("add", noisy(2), noisy(3)))),)),
                         (("gives", 6), (1, 2, 3)))
        self.assertEqual(noisy_told((("give", ("less", ("add", noisy(1), noisy(2)), noisy(3))),)),
                         (("gives", 0), (1, 2, 3)))
        # The thing called is worked out ahead of its ins, and its fault comes behind them.
        self.assertEqual(noisy_told((("do", ("call", "box", "say", NONE, (noisy(5),))),)), (("throws", "top"), (5,)))
        self.assertEqual(noisy_told((("do", ("call", "box", "say", ("cast", "box", ("new", "top")), (noisy(5),))),)),
                         (("throws", "top"), ()))
        self.assertEqual(noisy_told((("put", "box", "x", ("cast", "box", ("new", "top")), noisy(4)),)),
                         (("throws", "top"), ()))
        self.assertEqual(noisy_told((("put", "box", "x", NONE, noisy(4)),)), (("throws", "top"), (4,)))

    def test_things_are_made_in_order(self):
        call = ("call", "box", "hop", ("new", "box"), (num(1), ("new", "red")))
        self.gives(call, ("thing", 2), (), "box")
        self.gives(("cast", "box", ("get", "box", "y", ("new", "box"))), None, (), "box")
        body = (("do", ("new", "egg")), ("try", (("throw", NONE),), "top", 1, (("give", ("at", 1)),)))
        self.assertEqual(told(body, (), None, "top"), (("gives", ("thing", 2)), ()))

    def test_no_room_is_needed(self):
        tree = num(1)
        for _ in range(8):
            tree = ("add", num(1), tree)
        self.gives(tree, 9)


class StatementTest(unittest.TestCase, Raising):
    def test_set(self):
        self.assertEqual(told((("set", 1, num(4)), ("set", 1, ("add", ("at", 1), num(1))), ("give", ("at", 1)))),
                         (("gives", 5), ()))
        self.assertEqual(told((("set", 0, num(4)), ("give", SELF))), (("gives", 4), ()))
        self.assertEqual(told((("set", 2, ("at", 1)),)), (("wrong",), ()))

    def test_put(self):
        body = (("put", "box", "x", SELF, num(4)), ("give", ("get", "box", "x", SELF)))
        self.assertEqual(told(body), (("gives", 4), ()))
        for tree, value, end in [(NONE, num(4), ("throws", "top")), (num(1), num(4), ("wrong",)),
                                 (SELF, NONE, ("wrong",)), (("new", "egg"), num(4), ("wrong",)),
                                 (NONE, NONE, ("throws", "top"))]:
            self.assertEqual(told((("put", "box", "x", tree, value),)), (end, ()))

    def test_print_and_do(self):
        self.assertEqual(told((("print", num(4)), ("do", num(9)), ("print", num(4)), ("print", num(15)))),
                         (("gives", 0), (4, 4, 15)))
        self.assertEqual(told((("print", num(4)), ("print", SELF), ("print", num(4)))), (("wrong",), (4,)))
        self.assertEqual(noisy_told((("do", noisy(3)), ("do", NONE))), (("gives", 0), (3,)))

    def test_give_ends_the_method(self):
        self.assertEqual(told((("give", num(4)), ("print", num(1)), ("give", num(5)))), (("gives", 4), ()))
        self.assertEqual(told((("while", num(1), (("if", num(1), (("give", num(4)),), ()),)),)), (("gives", 4), ()))
        self.assertEqual(told((("give", NONE),)), (("wrong",), ()))
        self.assertEqual(told((("give", num(0)),), (), None, "box"), (("wrong",), ()))
        self.assertEqual(told((("give", ("new", "red")),), (), None, "box"), (("gives", ("thing", 1)), ()))

    def test_the_end_of_a_body(self):
        for out, value in [("num", 0), ("box", None), ("top", None)]:
            self.assertEqual(told((), (), None, out), (("gives", value), ()))
            self.assertEqual(told((("print", num(1)),), (), None, out), (("gives", value), (1,)))
            self.assertEqual(told((("if", num(0), (("give", SELF),), ()),), (), None, out), (("gives", value), ()))
        empty = (("box", "top", (), (("hop", (), "box", ()), ("test", (), "box", (
            ("give", ("call", "box", "hop", SELF, ())),)))),)
        self.assertEqual(meaning(Book(empty), "box", "test", ()), (("gives", None), ()))

    def test_throw(self):
        for tree, end in [(SELF, ("throws", "box")), (("new", "red"), ("throws", "red")), (NONE, ("throws", "top")),
                          (num(1), ("wrong",))]:
            self.assertEqual(told((("print", num(2)), ("throw", tree), ("print", num(3)))), (end, (2,)))

    def test_if(self):
        body = (("if", ("at", 1), (("print", num(1)), ("print", num(2))), (("print", num(3)),)), ("print", num(4)))
        for value, printed in [(0, (3, 4)), (1, (1, 2, 4)), (15, (1, 2, 4))]:
            self.assertEqual(told(body, (value,)), (("gives", 0), printed))
        self.assertEqual(told((("if", ("at", 1), (), ()), ("give", num(1))), (0,)), (("gives", 1), ()))
        self.assertEqual(told((("if", SELF, (), ()),)), (("wrong",), ()))
        self.assertEqual(told((("if", NONE, (), ()),)), (("wrong",), ()))

    def test_while(self):
        body = (("while", ("less", ("at", 1), num(3)), (("print", ("at", 1)), ("set", 1, ("add", ("at", 1), num(1))))),
                ("give", ("at", 1)))
        for value, printed in [(0, (0, 1, 2)), (2, (2,)), (3, ()), (9, ())]:
            self.assertEqual(told(body, (value,)), (("gives", max(3, value)), printed))
        self.assertEqual(told((("while", SELF, ()),)), (("wrong",), ()))
        self.assertEqual(told((("while", num(0), (("give", num(1)),)),)), (("gives", 0), ()))

    def test_while_within_while(self):
        inner = ("while", ("less", ("at", 2), num(2)), (("print", ("at", 2)), ("set", 2, ("add", ("at", 2), num(1)))))
        outer = ("while", ("less", ("at", 1), num(2)), (("set", 2, num(0)), inner, ("set", 1, ("add", ("at", 1), num(1)))))
        self.assertEqual(told((("set", 1, num(0)), outer)), (("gives", 0), (0, 1, 0, 1)))


class TryTest(unittest.TestCase, Raising):
    def caught(self, tried, name, ahead=(), behind=()):
        return told((*ahead, ("try", tried, name, 1, (("print", num(9)), *behind)), ("print", num(8))))

    def test_what_is_caught(self):
        for name, printed in [("top", (9, 8)), ("box", (9, 8)), ("red", (9, 8)), ("egg", None)]:
            end = ("gives", 0) if printed else ("throws", "red")
            self.assertEqual(self.caught((("throw", ("new", "red")), ("print", num(7))), name), (end, printed or ()))
        self.assertEqual(self.caught((("throw", ("new", "box")),), "red"), (("throws", "box"), ()))
        self.assertEqual(self.caught((("throw", NONE),), "top"), (("gives", 0), (9, 8)))
        self.assertEqual(self.caught((("throw", NONE),), "box"), (("throws", "top"), ()))

    def test_nothing_thrown(self):
        self.assertEqual(self.caught((("print", num(7)),), "top"), (("gives", 0), (7, 8)))
        self.assertEqual(self.caught((), "top"), (("gives", 0), (8,)))
        self.assertEqual(self.caught((("give", num(7)),), "top"), (("gives", 7), ()))

    def test_what_goes_wrong_is_not_caught(self):
        self.assertEqual(self.caught((("print", NONE),), "top"), (("wrong",), ()))

    def test_the_thing_is_kept(self):
        for local in range(4):
            body = (("try", (("throw", ("new", "red")),), "box", local, ()), ("give", ("at", local)))
            self.assertEqual(told(body, (), None, "box"), (("gives", ("thing", 1)), ()))

    def test_what_was_done_ahead_stays(self):
        body = (("set", 2, num(1)), ("try", (("set", 2, num(5)), ("put", "box", "x", SELF, num(6)), ("print", num(4)),
                                             ("throw", SELF)), "top", 1, (("print", ("at", 2)),)),
                ("give", ("get", "box", "x", SELF)))
        self.assertEqual(told(body), (("gives", 6), (4, 5)))

    def test_a_fault_within_an_expression(self):
        fault = ("get", "box", "x", NONE)
        self.assertEqual(self.caught((("print", ("add", num(1), ("add", num(2), fault))),), "top"),
                         (("gives", 0), (9, 8)))
        self.assertEqual(noisy_told((("try", (("print", ("add", noisy(1), fault)),), "top", 1, (("give", num(3)),)),)),
                         (("gives", 3), (1,)))

    def test_a_fault_in_the_other_body(self):
        self.assertEqual(self.caught((("throw", SELF),), "top", (), (("throw", ("new", "egg")),)),
                         (("throws", "egg"), (9,)))
        body = (("try", (("try", (("throw", SELF),), "box", 1, (("throw", ("new", "egg")),)),), "egg", 2,
                 (("give", num(3)),)),)
        self.assertEqual(told(body), (("gives", 3), ()))

    def test_the_innermost_one_catches(self):
        inner = ("try", (("throw", ("new", "red")),), "box", 1, (("print", num(1)),))
        self.assertEqual(told((("try", (inner,), "red", 1, (("print", num(2)),)),)), (("gives", 0), (1,)))
        inner = ("try", (("throw", ("new", "red")),), "egg", 1, (("print", num(1)),))
        self.assertEqual(told((("try", (inner,), "red", 1, (("print", num(2)),)),)), (("gives", 0), (2,)))

    def test_caught_in_a_method_called_and_not_there(self):
        thrower = ("hop", ("num",), "num", (("print", num(5)), ("try", (
            ("if", ("at", 1), (("throw", ("new", "red")),), (("throw", SELF),)),), "red", 2, (("give", num(6)),))))
        body = (("try", (("give", ("call", "box", "hop", SELF, (("at", 1),))),), "box", 2, (("give", num(7)),)),)
        book = Book((("box", "top", (), (thrower, ("test", ("num",), "num", body))), ("red", "box", (), ())))
        self.assertEqual([meaning(book, "box", "test", (value,)) for value in (1, 0)],
                         [(("gives", 6), (5,)), (("gives", 7), (5,))])
        self.assertEqual(meaning(book, "box", "hop", (0,)), (("throws", "box"), (5,)))

    def test_in_a_loop(self):
        body = (("while", ("less", ("at", 1), num(4)), (
            ("set", 1, ("add", ("at", 1), num(1))),
            ("try", (("if", ("same", ("at", 2), NONE), (("throw", SELF),), ()), ("print", num(1))), "top", 2,
             (("print", num(2)),)))),)
        self.assertEqual(told((("set", 2, NONE),) + body, (0,)), (("gives", 0), (2, 1, 1, 1)))


class CallTest(unittest.TestCase, Raising):
    def test_the_nearest_method_is_done(self):
        book = Book(PAGES)
        self.assertEqual(meaning(book, "box", "show", ()), (("gives", 1), ()))
        self.assertEqual(meaning(book, "red", "show", ()), (("gives", 2), ()))
        self.assertEqual(meaning(book, "red", "hop", (3, None)), (("gives", None), ()))
        self.assertEqual(meaning(book, "egg", "roll", (3,)), (("gives", 3), ()))

    def test_the_thing_is_of_the_class_told(self):
        classes = pages_with((("give", ("is", "red", SELF)),))
        self.assertEqual([meaning(Book(classes), name, "test", ()) for name in ("box", "red")],
                         [(("gives", 0), ()), (("gives", 1), ())])
        classes = pages_with((("give", ("call", "box", "show", SELF, ())),))
        self.assertEqual([meaning(Book(classes), name, "test", ()) for name in ("box", "red")],
                         [(("gives", 1), ()), (("gives", 2), ())])

    def test_locals_of_a_method_are_its_own(self):
        hop = ("hop", ("num",), "num", (("set", 1, num(9)), ("set", 2, num(9)), ("give", num(0))))
        test = ("test", (), "num", (("set", 1, num(3)), ("do", ("call", "box", "hop", SELF, (num(1),))),
                                    ("print", ("at", 1)), ("print", ("at", 2))))
        self.assertEqual(meaning(Book((("box", "top", (), (hop, test)),)), "box", "test", ()), (("wrong",), (3,)))

    def test_wrong_in_a_method_called(self):
        hop = ("hop", (), "num", (("give", NONE),))
        test = ("test", (), "num", (("try", (("do", ("call", "box", "hop", SELF, ())),), "top", 1, ()),))
        self.assertEqual(meaning(Book((("box", "top", (), (hop, test)),)), "box", "test", ()), (("wrong",), ()))


class ManyTest(unittest.TestCase, Raising):
    def many(self, body, most, values=()):
        book = Book(pages_with(body, ("num",) * len(values)))
        self.raises(TooMany, meaning, book, "box", "test", values, most=most)

    def test_just_300_and_301(self):
        self.assertEqual(told((("print", num(1)),) * 150), (("gives", 0), (1,) * 150))
        self.many((("print", num(1)),) * 150 + (("give", num(1)),), 300)
        self.assertEqual(told((("print", num(1)),) * 149 + (("give", num(1)), ("print", num(1)))),
                         (("gives", 1), (1,) * 149))
        self.many((("print", num(1)),) * 151, 300)

    def test_what_comes_first_is_told(self):
        ahead = (("print", num(1)),) * 149
        # 300 are begun, and the last one goes wrong.
        self.assertEqual(told(ahead + (("print", NONE),) * 9), (("wrong",), (1,) * 149))
        self.assertEqual(told(ahead + (("throw", NONE),) * 9), (("throws", "top"), (1,) * 149))
        self.many(ahead + (("do", ("cast", "top", num(1))),), 300)

    def test_each_expression_counts(self):
        for tree, many in [(num(1), 1), (NONE, 1), (SELF, 1), (("new", "box"), 1), (("add", num(1), num(1)), 3),
                           (("same", SELF, NONE), 3), (("cast", "box", SELF), 2), (("is", "box", SELF), 2),
                           (("get", "box", "x", SELF), 2), (("call", "box", "show", SELF, ()), 4),
                           (("call", "box", "hop", SELF, (num(1), ("cast", "box", SELF))), 7)]:
            self.count((("do", tree),), many + 1)

    def test_each_statement_counts(self):
        for statement, many in [(("set", 1, num(1)), 2), (("put", "box", "x", SELF, num(1)), 3), (("print", num(1)), 2),
                                (("if", num(1), (("do", num(1)),), ()), 4), (("if", num(0), (("do", num(1)),), ()), 2),
                                (("while", num(0), (("do", num(1)),)), 2), (("try", (), "top", 1, ()), 1),
                                (("try", (("do", num(1)),), "top", 1, (("do", num(1)),)), 3),
                                (("try", (("throw", SELF),), "top", 1, (("do", num(1)),)), 5),
                                (("try", (("try", (), "top", 1, (("do", num(1)),)),), "top", 1, ()), 2)]:
            self.count((statement,), many)

    def count(self, statements, many):
        """Asks that statements count as so many."""
        left = 300 - many
        ahead = (("try", (), "top", 1, ()),) * (left - 2)
        self.assertEqual(told(ahead + statements + (("give", num(7)),))[0], ("gives", 7), statements)
        self.many(ahead + statements + (("do", num(7)),) * 2, 300)
        self.many(ahead + (("do", num(7)),) + statements + (("give", num(7)),), 300)

    def test_a_while_counts_once_and_its_number_each_time(self):
        # 1 for the while; each time 3 for its number, and 1 + 3 for its body.
        loop = ("while", ("less", ("at", 1), ("at", 2)), (("set", 1, ("add", ("at", 1), num(1))),))
        for times in (0, 1, 5, 15):
            many = 1 + 3 * (times + 1) + 4 * times
            ahead = (("try", (), "top", 3, ()),) * (300 - many - 2)
            self.assertEqual(told(ahead + (loop, ("give", num(7))), (0, times)), (("gives", 7), ()))
            self.many(ahead + (("try", (), "top", 3, ()), loop, ("give", num(7))), 300, (0, times))

    def test_loops_without_end(self):
        self.many((("while", num(1), ()),), 300)
        self.many((("while", num(1), (("print", num(1)),)),), 300)
        # A fault that is caught in a loop goes on.
        self.many((("while", num(1), (("try", (("throw", NONE),), "top", 1, ()),)),), 300)

    def deep(self, behind=(), ahead=()):
        """A book whose method "test" calls itself as often as its in tells, 20 times at most."""
        more = ("if", ("at", 1), (("do", ("call", "box", "test", SELF, (("add", ("at", 1), num(15)),))),), ())
        return Book((("box", "top", (), (("test", ("num",), "num", ahead + (more,) + behind),
                                         ("twice", ("num", "num"), "num", (
                                             ("do", ("call", "box", "next", SELF, (("at", 1), ("at", 2)))),)),
                                         ("next", ("num", "num"), "num", (
                                             ("if", ("at", 1), (("do", ("call", "box", "next", SELF, (
                                                 ("add", ("at", 1), num(15)), ("at", 2)))),),
                                              (("do", ("call", "box", "test", SELF, (("at", 2),))),)),)))),))

    def test_just_20_bodies_and_21(self):
        # next begins 1 + a bodies, test 1 + b more.
        book = self.deep()
        self.assertEqual(meaning(book, "box", "next", (15, 3)), (("gives", 0), ()))
        self.raises(TooMany, meaning, book, "box", "next", (15, 4), most=20)
        self.raises(TooMany, meaning, book, "box", "twice", (15, 3), most=20)
        self.assertEqual(meaning(book, "box", "twice", (14, 3)), (("gives", 0), ()))

    def test_a_body_without_statements_begins_too(self):
        empty = ("empty", (), "num", ())
        more = ("more", ("num",), "num", (("if", ("at", 1), (("do", ("call", "box", "more", SELF, (
            ("add", ("at", 1), num(15)),))),), (("do", ("call", "box", "empty", SELF, ())),)),))
        ends = ("ends", ("num",), "num", (("do", ("call", "box", "four", SELF, (("at", 1),))),))
        four = ("four", ("num",), "num", (("do", ("call", "box", "more", SELF, (("at", 1),))),))
        book = Book((("box", "top", (), (empty, more, ends, four)),))
        # ends, four, 1 + 15 of more, and empty are 19.
        self.assertEqual(meaning(book, "box", "ends", (15,)), (("gives", 0), ()))
        wrap = ("box", "top", (), (empty, more, ends, four)), ("red", "box", (), (
            ("one", (), "num", (("do", ("call", "box", "ends", SELF, (num(15),))),)),
            ("two", (), "num", (("do", ("call", "red", "one", SELF, ())),))))
        self.assertEqual(meaning(Book(wrap), "red", "one", ()), (("gives", 0), ()))
        self.raises(TooMany, meaning, Book(wrap), "red", "two", (), most=20)

    def test_bodies_one_behind_the_other(self):
        book = self.deep()
        calls = (("do", ("call", "box", "test", SELF, (num(9),))),) * 3
        book = Book(book.classes + (("red", "box", (), (("all", (), "num", calls),)),))
        self.assertEqual(meaning(book, "red", "all", ()), (("gives", 0), ()))

    def test_the_one_that_comes_first(self):
        for many, most in [(0, 20), (5, 20), (6, 20), (7, 300), (9, 300)]:
            # Each body begins 2 * many + 3 ahead of the next one.
            call = ("call", "box", "test", SELF, ())
            book = Book((("box", "top", (), (("test", (), "num", (("do", num(1)),) * many + (("do", call),)),)),))
            self.raises(TooMany, meaning, book, "box", "test", (), most=most)

    def test_both_at_their_brink(self):
        # 20 bodies begin 15 each: the 300 are full when the 21st must begin.
        call = ("call", "box", "test", SELF, ())
        body = (("do", num(1)),) * 6 + (("do", call),)
        book = Book((("box", "top", (), (("test", (), "num", body),)),))
        self.raises(TooMany, meaning, book, "box", "test", (), most=20)
        body = (("try", (), "top", 1, ()),) + body
        book = Book((("box", "top", (), (("test", (), "num", body),)),))
        self.raises(TooMany, meaning, book, "box", "test", (), most=300)


class ChanceTest(unittest.TestCase):
    def test_by_chance(self):
        ends = {}
        for seed in range(400):
            maker = BookMaker(seed)
            book = maker.book(3)
            for name, _, _, _ in book.classes:
                for word in seen_words(book, name, True):
                    values = maker.values(method_plainly(book, name, word)[1])
                    end = self.compare(book, name, word, values)
                    ends[end] = ends.get(end, 0) + 1
        for end in ("gives", "throws", "wrong", 300, 20):
            self.assertGreater(ends.get(end, 0), 3, ends)

    def compare(self, book, name, word, values):
        plain = told_plainly(book, name, word, values)
        try:
            found = meaning(book, name, word, values)
        except TooMany as error:
            self.assertEqual(error.most, plain)
            return error.most
        self.assertEqual(found, plain)
        self.assertEqual(repr(found), repr(plain))
        return found[0][0]

    def test_another_order_of_classes_means_the_same(self):
        moved = 0
        for seed in range(80):
            maker = BookMaker(seed)
            book = maker.book(3)
            rows = list(book.classes)
            maker.chance.shuffle(rows)
            if any(row[1] not in ["top"] + [ahead[0] for ahead in rows[:at]] for at, row in enumerate(rows)):
                continue
            moved += tuple(rows) != book.classes
            for name, _, _, _ in rows:
                for word in seen_words(book, name, True):
                    if method_plainly(book, name, word)[1] == ("num",):
                        self.assertEqual(all_meanings(book, name, word), all_meanings(Book(tuple(rows)), name, word))
        self.assertGreater(moved, 5)


class AllMeaningsTest(unittest.TestCase, Raising):
    def test_no_number(self):
        self.assertEqual(all_meanings(Book(PAGES), "red", "show"), [((), (), ("gives", 2))])

    def test_one_number(self):
        body = (("if", ("less", ("at", 1), num(3)), (("print", ("at", 1)),), (("throw", SELF),)),)
        self.assertEqual(all_meanings(Book(pages_with(body, ("num",))), "box", "test"),
                         [((value,), (value,) if value < 3 else (), ("gives", 0) if value < 3 else ("throws", "box"))
                          for value in range(16)])

    def test_two_numbers(self):
        body = (("give", ("add", ("at", 1), ("at", 2))),)
        self.assertEqual(all_meanings(Book(pages_with(body, ("num", "num"))), "box", "test"),
                         [((one, other), (), ("gives", (one + other) % 16)) for one in range(16) for other in range(16)])

    def test_many(self):
        body = (("print", num(1)), ("while", ("at", 1), ()),
                ("if", ("at", 2), (("do", ("call", "box", "test", SELF, (num(0), num(1)))),), (("give", NONE),)))
        found = all_meanings(Book(pages_with(body, ("num", "num"))), "box", "test")
        self.assertEqual(found[0], ((0, 0), (1,), ("wrong",)))
        self.assertEqual(found[1:], [((one, other), (), "many") for one in range(16) for other in range(16)][1:])

    def test_as_meaning_tells(self):
        for seed in range(40):
            book = BookMaker(seed).book()
            for name, _, _, _ in book.classes:
                for word in seen_words(book, name, True):
                    if all(kind == "num" for kind in method_plainly(book, name, word)[1]):
                        for values, printed, end in all_meanings(book, name, word)[::37]:
                            plain = told_plainly(book, name, word, values)
                            self.assertEqual((end, printed), plain if isinstance(plain, tuple) else ("many", ()))

    def test_lists_are_new(self):
        book = Book(PAGES)
        all_meanings(book, "red", "show").append(1)
        self.assertEqual(len(all_meanings(book, "red", "show")), 1)

    def test_not_numbers(self):
        self.raises(NotNumbers, all_meanings, Book(PAGES), "box", "hop")
        for ins in [("box",), ("top",), ("num", "box"), ("num", "num", "num")]:
            self.raises(NotNumbers, all_meanings, Book(pages_with((), ins)), "box", "test")
        self.raises(BadName, all_meanings, Book(PAGES), "top", "hop")
        self.raises(BadWord, all_meanings, Book(PAGES), "egg", "hop")


class WrongTest(unittest.TestCase, Raising):
    def test_no_book(self):
        for value in STRAY + [PAGES, House(FAMILY)]:
            self.raises(NoBook, meaning, value, None, None, None)
            self.raises(NoBook, all_meanings, value, None, None)

    def test_names(self):
        for value in strays() + ["top", "num", "gray", "none"]:
            self.raises(BadName, meaning, Book(PAGES), value, None, None)
            self.raises(BadName, all_meanings, Book(PAGES), value, "Show")

    def test_words(self):
        for value in strays() + ["roll", "x", "Show", "box"]:
            self.raises(BadWord, meaning, Book(PAGES), "box", value, None)
            self.raises(BadWord, all_meanings, Book(PAGES), "box", value)

    def test_values(self):
        for value in strays():
            self.raises(BadValues, meaning, Book(PAGES), "box", "hop", value)
            self.raises(BadValues, meaning, Book(PAGES), "egg", "roll", (value,))
        for value in strays(None):
            self.raises(BadValues, meaning, Book(PAGES), "box", "hop", (1, value))
        for values in [(1,), (1, None, 1), (None, None), (1, 1), [1, None], (16, None), (-1, None), (True, None),
                       (1, False), ("1", None), (1, ("thing", 0)), ((1,), None)]:
            self.raises(BadValues, meaning, Book(PAGES), "box", "hop", values)
        self.raises(BadValues, meaning, Book(PAGES), "box", "show", (1,))
        self.raises(BadValues, meaning, Book(PAGES), "box", "show", [])
        # Values that are wrong are told ahead of what goes on too long.
        book = Book(pages_with((("while", num(1), ()),), ("num",)))
        self.raises(BadValues, meaning, book, "box", "test", (16,))

    def test_books_stay(self):
        book = Book(pages_with((("print", num(1)), ("put", "box", "x", SELF, num(1)))))
        classes = eval(repr(book.classes))
        meaning(book, "box", "test", ())
        self.assertEqual(meaning(book, "box", "test", ()), (("gives", 0), (1,)))
        self.assertEqual(book.classes, classes)


if __name__ == "__main__":
    unittest.main()
