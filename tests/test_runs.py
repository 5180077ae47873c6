"""Runs: points 1 and 11 to 14."""

import unittest

from helpers import FAMILY, STRAY, Maker, Raising, family_with, methods_in, strays

from classhouse.checker import checked, not_let
from classhouse.errors import BadIns, BadName, BadWord, NoHouse, NotSeen, TooLong
from classhouse.houses import House
from classhouse.runs import count_steps, heap_behind, held_behind, prints, run, things_of
from classhouse.texts import read, write

FUNCTIONS = [run, prints, count_steps, things_of, heap_behind, held_behind]
SELF = ("take", 0)
PUSH = ("push", 1)
GIVE = ("give",)
THING = ("thing", 0)


class ExamplesTest(unittest.TestCase, Raising):
    def test_one_that_gives(self):
        code = (("take", 0), ("take", 1), ("put", "box", "x"), ("take", 0), ("get", "box", "x"), ("copy",), ("print",),
                ("push", 9), ("add",), ("give",))
        house = House((("box", "top", (("x", "num"),), (("show", ("num",), "num", code, ()),)),))
        self.assertEqual([function(house, "box", "show", (8,)) for function in FUNCTIONS],
                         [("gives", 1), (8,), 10, ("box",), ((8,),), (0,)])

    def test_three_ends(self):
        bad = (("none",), ("get", "box", "x"), ("give",), ("push", 3), ("give",))
        house = House((("box", "top", (("x", "num"),),
                        (("show", (), "num", bad, ((0, 2, "top", 3),)), ("turn", (), "num", bad, ()),
                         ("slip", (), "num", (("add",), ("give",)), ()))),))
        self.assertEqual([run(house, "box", "show", ()), run(house, "box", "turn", ()), run(house, "box", "slip", ())],
                         [("gives", 3), ("throws", "top"), ("wrong", "box", 2, 0)])
        self.raises(NotSeen, run, house, "box", "hop", ())


class StepsTest(unittest.TestCase, Raising):
    """Each step, in the method "test" of the class box, at place 2; the class red is below it, egg is not."""

    def ends(self, code, end, ins=(), kinds=(), out="num", handlers=()):
        house = family_with(tuple(code), handlers, kinds, out)
        self.assertEqual(run(house, "box", "test", ins), end)
        return house

    def gives(self, code, answer, *args, **more):
        return self.ends([*code, GIVE], ("gives", answer), *args, **more)

    def wrong(self, code, *args, **more):
        """The last of these steps goes wrong."""
        return self.ends([*code, GIVE], ("wrong", "box", 2, len(code) - 1), *args, **more)

    def faults(self, code, *args, **more):
        """The last of these steps makes a fault, of a new thing."""
        house = self.ends([*code, GIVE], ("throws", "top"), *args, **more)
        made = things_of(house, "box", "test", *args[:1] or ((),))
        self.assertEqual(made[-1], "top")
        self.assertEqual(count_steps(house, "box", "test", *args[:1] or ((),)), len(code))

    def test_push_and_none(self):
        self.gives([("push", 0)], 0)
        self.gives([("push", 15)], 15)
        self.gives([("none",)], None, out="box")

    def test_a_seventh_value(self):
        drop = [("drop",)] * 5
        for step, first in [(("push", 1), PUSH), (("none",), PUSH), (SELF, PUSH), (("new", "egg"), PUSH), (("copy",), PUSH)]:
            self.gives([PUSH] * 5 + [step] + [("drop",)] * 5, 1)
            self.wrong([PUSH] * 6 + [step])
        self.gives([PUSH] * 6 + drop, 1)

    def test_a_seventh_thing_is_made(self):
        house = self.wrong([PUSH] * 6 + [("new", "egg")])
        self.assertEqual(things_of(house, "box", "test", ()), ("box", "egg"))
        self.assertEqual(heap_behind(house, "box", "test", ()), ((0, None, None), (None,)))

    def test_take(self):
        self.gives([SELF], THING, out="box")
        self.gives([("take", 1)], 7, (7, None, THING), ("num", "egg", "top"))
        self.gives([("take", 2)], None, (7, None, THING), ("num", "egg", "top"), "egg")
        self.gives([("take", 3)], THING, (7, None, THING), ("num", "egg", "top"), "top")
        self.wrong([("take", 1)])
        self.wrong([("take", 3)], (7, None), ("num", "egg"))

    def test_keep(self):
        self.gives([("push", 9), ("keep", 3), ("take", 3)], 9)
        self.gives([("push", 9), ("keep", 0), SELF], 9)
        self.gives([PUSH, ("push", 9), ("keep", 1)], 1)
        self.wrong([("keep", 3)])

    def test_add(self):
        for one, other, answer in [(3, 4, 7), (9, 7, 0), (15, 15, 14), (0, 0, 0), (15, 1, 0)]:
            self.gives([("push", one), ("push", other), ("add",)], answer)

    def test_less(self):
        for one, other, answer in [(3, 4, 1), (4, 3, 0), (4, 4, 0), (0, 15, 1), (15, 0, 0)]:
            self.gives([("push", one), ("push", other), ("less",)], answer)

    def test_add_and_less_go_wrong(self):
        for word in ("add", "less"):
            self.wrong([(word,)])
            self.wrong([PUSH, (word,)])
            self.wrong([("none",), PUSH, (word,)])
            self.wrong([PUSH, ("none",), (word,)])
            self.wrong([SELF, PUSH, (word,)])
            self.wrong([PUSH, SELF, (word,)])

    def test_same(self):
        egg = ("new", "egg")
        for steps, answer in [([SELF, SELF], 1), ([("none",), ("none",)], 1), ([SELF, ("none",)], 0),
                              ([("none",), SELF], 0), ([egg, egg], 0), ([egg, ("copy",)], 1), ([SELF, egg], 0)]:
            self.gives([*steps, ("same",)], answer)
        self.wrong([("same",)])
        self.wrong([SELF, ("same",)])
        self.wrong([PUSH, ("same",)])
        self.wrong([PUSH, PUSH, ("same",)])
        self.wrong([SELF, PUSH, ("same",)])
        self.wrong([PUSH, SELF, ("same",)])
        self.wrong([PUSH, ("none",), ("same",)])

    def test_new(self):
        house = self.gives([("new", "red"), ("new", "top")], ("thing", 2), out="top")
        self.assertEqual(things_of(house, "box", "test", ()), ("box", "red", "top"))
        self.assertEqual(heap_behind(house, "box", "test", ()), ((0, None, None), (0, None, None, None), ()))

    def test_get(self):
        self.gives([SELF, ("get", "box", "x")], 0)
        self.gives([SELF, ("get", "box", "y")], None, out="box")
        self.gives([("new", "pink"), ("get", "box", "x")], 0)
        self.gives([("new", "pink"), ("get", "red", "w")], None, out="egg")
        self.faults([("none",), ("get", "box", "x")])
        self.wrong([PUSH, ("get", "box", "x")])
        self.wrong([("new", "egg"), ("get", "box", "x")])
        self.wrong([SELF, ("get", "red", "x")])
        self.wrong([("get", "box", "x")])

    def test_put(self):
        house = self.gives([SELF, ("push", 9), ("put", "box", "x"), SELF, ("get", "box", "x")], 9)
        self.assertEqual(heap_behind(house, "box", "test", ()), ((9, None, None),))
        house = self.gives([SELF, ("new", "pink"), ("put", "box", "y"), PUSH], 1)
        self.assertEqual(heap_behind(house, "box", "test", ()), ((0, ("thing", 1), None), (0, None, None, None)))
        house = self.gives([("new", "pink"), SELF, ("put", "red", "z"), PUSH], 1)
        self.assertEqual(heap_behind(house, "box", "test", ()), ((0, None, None), (0, None, THING, None)))
        house = self.gives([SELF, SELF, ("put", "box", "y"), SELF, ("none",), ("put", "box", "y"), PUSH], 1)
        self.assertEqual(heap_behind(house, "box", "test", ()), ((0, None, None),))

    def test_put_goes_wrong(self):
        put = ("put", "box", "x")
        self.wrong([put])
        self.wrong([PUSH, put])
        self.wrong([PUSH, PUSH, put])
        self.wrong([("new", "egg"), PUSH, put])
        self.wrong([SELF, PUSH, ("put", "red", "x")])
        self.wrong([SELF, ("none",), put])
        self.wrong([SELF, SELF, put])
        self.wrong([SELF, PUSH, ("put", "box", "y")])
        self.wrong([SELF, ("new", "egg"), ("put", "box", "y")])
        self.wrong([SELF, PUSH, ("put", "box", "z")])
        house = self.wrong([SELF, ("new", "top"), ("put", "box", "y")])
        self.assertEqual(heap_behind(house, "box", "test", ()), ((0, None, None), ()))

    def test_put_faults_even_if_the_value_does_not_fit(self):
        self.faults([("none",), PUSH, ("put", "box", "x")])
        self.faults([("none",), ("none",), ("put", "box", "x")])

    def test_go_and_if(self):
        self.ends([("go", 3), ("push", 2), GIVE, ("push", 5), ("go", 2)], ("gives", 5))
        for number, answer in [(0, 2), (1, 3), (15, 3)]:
            self.ends([("push", number), ("if", 4), ("push", 2), GIVE, ("push", 3), GIVE], ("gives", answer))
        self.wrong([("if", 0)])
        self.wrong([("none",), ("if", 0)])
        self.wrong([SELF, ("if", 0)])

    def test_copy_and_drop(self):
        self.gives([("push", 4), ("copy",), ("add",)], 8)
        self.gives([SELF, ("copy",), ("same",)], 1)
        self.gives([("push", 4), PUSH, ("drop",)], 4)
        self.wrong([("copy",)])
        self.wrong([("drop",)])
        self.wrong([PUSH, ("drop",), ("drop",)])

    def test_cast(self):
        for name in ("top", "box", "red"):
            self.gives([("new", "red"), ("cast", name)], ("thing", 1), out="box")
        self.gives([("none",), ("cast", "egg")], None, out="egg")
        self.faults([SELF, ("cast", "red")])
        self.faults([("new", "egg"), ("cast", "box")])
        self.wrong([("cast", "box")])
        self.wrong([PUSH, ("cast", "box")])
        self.wrong([PUSH, ("cast", "top")])

    def test_is(self):
        for name, answer in [("top", 1), ("box", 1), ("red", 1), ("pink", 0), ("egg", 0), ("blue", 0)]:
            self.gives([("new", "red"), ("is", name)], answer)
            self.gives([("none",), ("is", name)], 0)
        self.wrong([("is", "top")])
        self.wrong([PUSH, ("is", "top")])

    def test_print(self):
        house = self.gives([("push", 4), ("print",), ("push", 0), ("print",), ("push", 4), ("print",), PUSH], 1)
        self.assertEqual(prints(house, "box", "test", ()), (4, 0, 4))
        self.wrong([("print",)])
        self.wrong([("none",), ("print",)])
        self.wrong([SELF, ("print",)])
        house = self.wrong([("push", 4), ("print",), SELF, ("print",)])
        self.assertEqual(prints(house, "box", "test", ()), (4,))

    def test_enter_and_leave(self):
        steps = [SELF, ("enter",), SELF, ("enter",), ("new", "egg"), ("leave",), ("new", "top"), ("copy",), ("enter",),
                 ("leave",), SELF, ("leave",), PUSH]
        house = self.gives(steps, 1)
        self.assertEqual(held_behind(house, "box", "test", ()), (1, -1, 0))
        for word in ("enter", "leave"):
            self.faults([("none",), (word,)])
            self.wrong([PUSH, (word,)])
            self.wrong([(word,)])

    def test_give(self):
        for out, steps, answer in [("num", [PUSH], 1), ("box", [SELF], THING), ("top", [SELF], THING),
                                   ("box", [("new", "pink")], ("thing", 1)), ("egg", [("none",)], None)]:
            self.gives(steps, answer, out=out)
        for out, steps in [("num", [SELF]), ("num", [("none",)]), ("box", [PUSH]), ("top", [PUSH]), ("red", [SELF]),
                           ("egg", [SELF]), ("box", [("new", "egg")]), ("num", [])]:
            self.wrong([*steps, GIVE], out=out)

    def test_throw(self):
        self.ends([SELF, ("throw",)], ("throws", "box"))
        self.ends([("new", "pink"), ("throw",)], ("throws", "pink"))
        house = self.ends([("none",), ("throw",)], ("throws", "top"))
        self.assertEqual(things_of(house, "box", "test", ()), ("box", "top"))
        self.wrong([PUSH, ("throw",)])
        self.wrong([("throw",)])


class CallsTest(unittest.TestCase):
    def test_an_answer_is_pushed(self):
        code = (("push", 9), SELF, ("call", "box", "show"), ("add",), GIVE)
        self.assertEqual(run(family_with(code), "box", "test", ()), ("gives", 10))

    def test_the_method_of_the_class_of_the_thing_is_gone_into(self):
        for name, answer in [("box", 1), ("red", 2), ("blue", 1), ("pink", 2)]:
            code = (("new", name), ("call", "box", "show"), GIVE)
            self.assertEqual(run(family_with(code), "box", "test", ()), ("gives", answer))

    def test_the_ins_come_in_order(self):
        house = House((("a", "top", (), (
            ("p", (), "num", (SELF, ("push", 2), ("push", 3), ("push", 5), ("call", "a", "q"), GIVE), ()),
            ("q", ("num", "num", "num"), "num",
             (("take", 1), ("print",), ("take", 2), ("print",), ("take", 3), ("print",), SELF, ("is", "a"), GIVE), ()))),))
        self.assertEqual(prints(house, "a", "p", ()), (2, 3, 5))
        self.assertEqual(run(house, "a", "p", ()), ("gives", 1))

    def call(self, steps, out="box"):
        return family_with((*steps, GIVE), (), (), out)

    def test_where_a_call_goes_wrong(self):
        hop = ("call", "box", "hop")
        for steps in [[hop], [("none",), hop], [PUSH, ("none",), hop], [PUSH, PUSH, ("none",), hop],
                      [("new", "egg"), PUSH, ("none",), hop], [SELF, SELF, ("none",), hop],
                      [SELF, ("none",), ("none",), hop], [SELF, PUSH, PUSH, hop],
                      [SELF, PUSH, ("new", "egg"), hop], [SELF, PUSH, ("none",), ("call", "red", "hop")],
                      [SELF, PUSH, ("new", "top"), hop]]:
            self.assertEqual(run(self.call(steps), "box", "test", ()), ("wrong", "box", 2, len(steps) - 1))

    def test_where_a_call_faults(self):
        for steps in [[("none",), PUSH, ("none",)], [("none",), ("none",), PUSH], [("none",), SELF, SELF]]:
            house = self.call([*steps, ("call", "box", "hop")])
            self.assertEqual(run(house, "box", "test", ()), ("throws", "top"))

    def test_things_of_classes_below_go_in(self):
        house = self.call([SELF, PUSH, ("new", "pink"), ("call", "box", "hop")])
        self.assertEqual(run(house, "box", "test", ()), ("gives", ("thing", 1)))

    def test_a_fault_in_a_method_below(self):
        house = House((("a", "top", (), (("p", (), "num", (SELF, ("call", "a", "q"), GIVE), ()),
                                         ("q", (), "num", (("add",), GIVE), ()))),))
        self.assertEqual(run(house, "a", "p", ()), ("wrong", "a", 1, 0))
        self.assertEqual(run(house, "a", "q", ()), ("wrong", "a", 1, 0))

    def test_a_nearest_method_above_begins(self):
        house = House(FAMILY)
        self.assertEqual(run(house, "pink", "show", ()), ("gives", 2))
        self.assertEqual(run(house, "red", "hop", (3, ("thing", 0))), ("gives", ("thing", 0)))
        self.assertEqual(things_of(house, "red", "hop", (3, ("thing", 0))), ("red",))
        self.assertEqual(run(house, "pink", "hop", (3, ("thing", 0))), ("gives", None))


class HandlersTest(unittest.TestCase):
    def end(self, code, handlers, out="num"):
        return run(family_with(code, handlers, (), out), "box", "test", ())

    def test_a_handler_of_the_same_frame(self):
        code = (PUSH, ("keep", 1), PUSH, PUSH, ("new", "red"), ("throw",), ("keep", 2), ("take", 1), GIVE)
        self.assertEqual(self.end(code, ((5, 6, "red", 6),)), ("gives", 1))
        self.assertEqual(self.end(code, ((5, 6, "box", 6),)), ("gives", 1))
        self.assertEqual(self.end(code, ((0, 9, "top", 6),)), ("gives", 1))
        for row in [(5, 6, "egg", 6), (5, 6, "pink", 6), (4, 5, "top", 6), (6, 9, "top", 6)]:
            self.assertEqual(self.end(code, (row,)), ("throws", "red"))

    def test_the_stack_is_the_thing_alone(self):
        code = (PUSH, PUSH, ("new", "red"), ("throw",), GIVE)
        self.assertEqual(self.end(code, ((3, 4, "top", 4),), "box"), ("gives", ("thing", 1)))
        code = (PUSH, PUSH, ("new", "red"), ("throw",), ("drop",), ("drop",), ("go", 0))
        self.assertEqual(self.end(code, ((3, 4, "top", 4),), "box"), ("wrong", "box", 2, 5))

    def test_the_first_of_several(self):
        code = (("new", "red"), ("throw",), PUSH, GIVE, ("push", 2), GIVE, ("push", 3), GIVE)
        rows = ((1, 2, "egg", 2), (1, 2, "box", 4), (1, 2, "red", 6), (1, 2, "top", 2))
        self.assertEqual(self.end(code, rows), ("gives", 2))
        self.assertEqual(self.end(code, rows[2:]), ("gives", 3))
        self.assertEqual(self.end(code, rows[3:]), ("gives", 1))
        self.assertEqual(self.end(code, rows[:1]), ("throws", "red"))

    def test_faults_are_things_of_top(self):
        code = (("none",), ("get", "box", "x"), GIVE, ("push", 4), GIVE)
        self.assertEqual(self.end(code, ((1, 2, "box", 3), (1, 2, "top", 3))), ("gives", 4))
        self.assertEqual(self.end(code, ((1, 2, "box", 3),)), ("throws", "top"))

    def test_steps_that_go_wrong_are_not_caught(self):
        self.assertEqual(self.end((("add",), PUSH, GIVE), ((0, 3, "top", 1),)), ("wrong", "box", 2, 0))

    def frames(self, upper_rows, lower_rows):
        """p calls q, which throws a red thing."""
        lower = (("push", 6), ("keep", 1), PUSH, SELF, ("call", "a", "q"), GIVE, ("drop",), ("take", 1), GIVE)
        upper = (("new", "red"), ("throw",), ("push", 3), GIVE)
        house = House((("a", "top", (), (("p", (), "num", lower, lower_rows), ("q", (), "num", upper, upper_rows))),
                       ("red", "top", (), ())))
        return house

    def test_a_handler_of_a_frame_below(self):
        self.assertEqual(run(self.frames((), ((4, 5, "red", 6),)), "a", "p", ()), ("gives", 6))
        self.assertEqual(run(self.frames((), ((3, 4, "red", 6),)), "a", "p", ()), ("throws", "red"))
        self.assertEqual(run(self.frames((), ((5, 6, "red", 6),)), "a", "p", ()), ("throws", "red"))
        self.assertEqual(run(self.frames((), ((4, 5, "a", 6),)), "a", "p", ()), ("throws", "red"))

    def test_the_uppermost_frame_catches_first(self):
        self.assertEqual(run(self.frames(((1, 2, "red", 2),), ((4, 5, "red", 6),)), "a", "p", ()), ("gives", 3))
        self.assertEqual(run(self.frames(((1, 2, "a", 2),), ((4, 5, "red", 6),)), "a", "p", ()), ("gives", 6))
        self.assertEqual(run(self.frames(((0, 1, "red", 2),), ()), "a", "p", ()), ("throws", "red"))

    def test_a_fault_of_a_call_is_caught_in_its_own_frame(self):
        code = (("none",), ("call", "box", "show"), GIVE, ("push", 4), GIVE)
        self.assertEqual(self.end(code, ((1, 2, "top", 3),)), ("gives", 4))

    def test_a_thing_is_thrown_through_several_frames(self):
        call_self = (("take", 1), ("if", 3), ("go", 9), SELF, ("take", 1), ("push", 15), ("add",), ("call", "a", "p"),
                     GIVE, ("new", "a"), ("throw",))
        house = House((("a", "top", (), (("p", ("num",), "num", call_self, ()),)),))
        self.assertEqual(run(house, "a", "p", (5,)), ("throws", "a"))
        self.assertEqual(things_of(house, "a", "p", (5,)), ("a", "a"))


class LongRunsTest(unittest.TestCase, Raising):
    def long_house(self, pads, out="num", last=GIVE):
        """A house whose run of p has 1995 steps and one more for each pad: 16 times 16 rounds, and 11 in q."""
        down = (("push", 15), ("add",), ("copy",))
        code = (("push", 0), ("keep", 1), ("push", 0), ("keep", 2),
                ("take", 2), *down, ("keep", 2), ("go", 10), ("if", 4),
                ("take", 1), *down, ("keep", 1), ("if", 2), SELF, ("call", "a", "q"), last)
        more = (("push", 11), ("keep", 1), ("take", 1), *down, ("keep", 1), ("if", 2))
        more = (*more, *[("go", 9 + pad) for pad in range(pads)], PUSH, GIVE)
        return House((("a", "top", (), (("p", (), out, code, ()), ("q", (), "num", more, ()))),))

    def test_runs_that_end_by_2000_steps(self):
        for pads in (0, 4, 5):
            house = self.long_house(pads)
            self.assertEqual(count_steps(house, "a", "p", ()), 1995 + pads)
            self.assertEqual(run(house, "a", "p", ()), ("gives", 1))
            self.assertEqual(held_behind(house, "a", "p", ()), (0,))

    def test_runs_that_end_otherwise_at_step_2000(self):
        house = self.long_house(5, "top")
        self.assertEqual(run(house, "a", "p", ()), ("wrong", "a", 0, 19))
        self.assertEqual(count_steps(house, "a", "p", ()), 2000)
        house = self.long_house(5, "num", ("throw",))
        self.assertEqual(run(house, "a", "p", ()), ("wrong", "a", 0, 19))

    def test_runs_that_do_not(self):
        loop = House((("a", "top", (), (("p", (), "num", (("go", 0),), ()),)),))
        deep = House((("a", "top", (), (("p", (), "num", (SELF, ("call", "a", "p"), GIVE), ()),)),))
        for house in [self.long_house(6), self.long_house(6, "top"), self.long_house(8), loop, deep]:
            for function in FUNCTIONS:
                self.raises(TooLong, function, house, "a", "p", (), most=2000)


class BeginningTest(unittest.TestCase, Raising):
    def test_bad_ins(self):
        house = family_with(GIVE_ONE, (), ("num", "box", "top"))
        egg = family_with(GIVE_ONE, (), ("egg",))
        for function in FUNCTIONS:
            for ins in [(15, None, None), (0, THING, THING), (7, THING, None), (7, None, THING)]:
                function(house, "box", "test", ins)
                function(house, "red", "test", ins)
            for ins in [(16, None, None), (-1, None, None), (True, None, None), (False, None, None), (None, None, None),
                        (THING, None, None), ("unset", None, None), (7, 7, None), (7, None, 7), (7, None, True),
                        (7, ("thing", 1), None), (7, ("thing", False), None), (7, ["thing", 0], None),
                        (7, ("thing", 0, 0), None), (7, ("thing",), None), (7, ("things", 0), None), (7, (), None),
                        (7, (["thing"], 0), None), (7, ("thing", -1), None), (7, "box", None), (7, None),
                        (7, None, None, None), (7,), (), [7, None, None], {7: 1, None: 2, 3: None}]:
                self.raises(BadIns, function, house, "box", "test", ins)
            self.strays_raise(BadIns, lambda value: function(house, "box", "test", value))
            self.raises(BadIns, function, egg, "box", "test", (THING,))
            function(egg, "box", "test", (None,))
            self.strays_raise(BadIns, lambda value: function(house, "box", "test", (value, None, None)))
            self.strays_raise(BadIns, lambda value: function(house, "box", "test", (7, None, value)), strays(None))
            self.strays_raise(BadIns, lambda value: function(house, "box", "show", value), strays(()))

    def test_the_first_argument_is_told(self):
        house = House(FAMILY)
        for function in FUNCTIONS:
            self.strays_raise(NoHouse, lambda value: function(value, 1, 2, 3), strays(STRAY[-1]) + [FAMILY])
            self.strays_raise(BadName, lambda value: function(house, value, 2, 3), STRAY + ["num", "gray"])
            self.strays_raise(BadWord, lambda value: function(house, "box", value, 3), STRAY + ["showing", "X"])
            self.raises(BadWord, function, house, "top", 5, 3)
            for name, word in [("box", "roll"), ("egg", "show"), ("top", "show"), ("box", "gone"), ("box", "top")]:
                self.raises(NotSeen, function, house, name, word, 3)


GIVE_ONE = (PUSH, GIVE)


class NamesTest(unittest.TestCase):
    """Classes, fields and methods may have the words of steps as their names."""

    HOUSE = House((
        ("copy", "top", (("give", "num"), ("throw", "copy"), ("top", "top")), (
            ("go", (), "num", (SELF, ("push", 5), ("put", "copy", "give"), SELF, ("call", "copy", "keep"), GIVE), ()),
            ("keep", (), "num", (("new", "throw"), ("get", "copy", "throw"), ("drop",), SELF, ("get", "copy", "give"), GIVE), ()))),
        ("throw", "copy", (), (("num", (), "copy", (("new", "copy"), ("cast", "copy"), ("is", "throw"), ("if", 5),
                                                    ("go", 5), ("none",), GIVE), ()),)),
        ("give", "top", (), (("add", (), "num", (("new", "give"), ("cast", "give"), ("is", "give"), GIVE), ()),))))

    def test_runs(self):
        self.assertEqual(run(self.HOUSE, "copy", "go", ()), ("gives", 5))
        self.assertEqual(things_of(self.HOUSE, "copy", "go", ()), ("copy", "throw"))
        self.assertEqual(run(self.HOUSE, "throw", "num", ()), ("gives", None))
        self.assertEqual(run(self.HOUSE, "give", "add", ()), ("gives", 1))

    def test_the_checker(self):
        self.assertEqual(not_let(self.HOUSE), [])
        self.assertEqual(checked(self.HOUSE, "throw", 0)[1][0][1], ("copy",))

    def test_texts(self):
        self.assertTrue(read(write(self.HOUSE)) == self.HOUSE)


class LikeRunsTest(unittest.TestCase):
    def outcomes(self, house):
        found = []
        for name, place in methods_in(house):
            word, kinds = [row[3][place][:2] for row in house.classes if row[0] == name][0]
            ins = tuple(3 if kind == "num" else None for kind in kinds)
            for function in FUNCTIONS:
                try:
                    found.append(function(house, name, word, ins))
                except TooLong:
                    found.append("long")
        return found

    def test_equal_houses_have_equal_runs(self):
        for seed in range(20):
            house = Maker(seed).house(12)
            self.assertEqual(self.outcomes(house), self.outcomes(read(write(house))))

    def test_another_method_that_is_not_gone_into_changes_nothing(self):
        for code in [(PUSH, GIVE), (("add",), GIVE), (("none",), ("throw",))]:
            house = family_with(code)
            for function in FUNCTIONS:
                self.assertEqual(function(house, "red", "show", ()), function(House(FAMILY), "red", "show", ()))


if __name__ == "__main__":
    unittest.main()
