"""The checker: points 1, 20, 21 and 22."""

import unittest

from brute import all_frames, code_of, frame_fits, table_of
from helpers import FAMILY, GIVE, STRAY, Maker, Raising, changed, family_with, methods_in, strays

from classhouse.checker import (checked, greatest_height, jumped_to, not_let, shows_table, shows_verdict, told_frames,
                                verdict, walk_passes)
from classhouse.errors import BadName, BadPlace, BadTold, NoHouse, TooLong
from classhouse.frames import first_frame
from classhouse.houses import House
from classhouse.roads import is_wrong_road, wrong_road
from classhouse.runs import run, things_of
from classhouse.traces import trace

U = "unset"
CELLS = ("box", U, U, U)

# Two branches with unlike kinds, and a loop.
CODE = (("take", 1), ("if", 4), ("new", "red"), ("go", 5), ("new", "blue"), ("keep", 2), ("push", 1), ("if", 0),
        ("take", 0), ("give",))
HANDLERS = ((5, 7, "egg", 8),)


def of_code(code, handlers=(), ins=(), out="num"):
    """What is passed for a method of this code."""
    return family_with(tuple(code), handlers, ins, out), "box", 2


LET = of_code(CODE, HANDLERS, ("num",), "box")
NOT_LET = of_code(CODE, ((5, 7, "egg", 9),), ("num",), "box")
B1 = ("box", "num", U, U)
TABLE = (((B1, ()),), ((B1, ("num",)),), ((B1, ()),), ((B1, ("red",)),), ((B1, ()),), ((B1, ("box",)),),
         ((("box", "num", "box", U), ()),), ((("box", "num", "box", U), ("num",)),),
         ((("box", "num", U, U), ("egg",)),), ((B1, ("box",)),))


class ExamplesTest(unittest.TestCase):
    def test_example(self):
        code = (("take", 1), ("if", 4), ("new", "red"), ("go", 5), ("new", "blue"), ("give",))
        house = House((("box", "top", (), (("pick", ("num",), "box", code, ()), ("odd", ("num",), "red", code, ()))),
                       ("red", "box", (), ()), ("blue", "box", (), ())))
        self.assertEqual([checked(house, "box", 0)[5], not_let(house), verdict(house, "box", 1)[0],
                          jumped_to(house, "box", 0), greatest_height(house, "box", 0)],
                         [((("box", "num", "unset", "unset"), ("box",)),), [("box", 1)], "road", (4, 5), 1])
        self.assertEqual([shows_table(house, "box", 0, checked(house, "box", 0)),
                          walk_passes(house, "box", 0, told_frames(house, "box", 0)),
                          walk_passes(house, "box", 0, ((), ())), told_frames(house, "box", 1)],
                         [True, True, False, None])


class CheckedTest(unittest.TestCase):
    def test_branches_are_joined(self):
        code = CODE[:8] + (("push", 1), ("drop",), ("take", 0), ("give",))
        table = checked(*of_code(code, (), ("num",), "box"))
        self.assertEqual(table[:6], TABLE[:6])
        self.assertEqual(table[6], (((*B1[:2], "box", U), ()),))

    def test_frames_of_several_heights(self):
        table = checked(*LET)
        self.assertEqual(table[8], ((("box", "num", "box", U), ()), (B1, ("egg",))))
        self.assertEqual(table[9], ((("box", "num", "box", U), ("box",)), (B1, ("egg", "box"))))
        self.assertIsNone(checked(*NOT_LET))

    def test_a_loop_widens_what_was_met_first(self):
        table = checked(*of_code((("new", "pink"), ("keep", 1), ("new", "blue"), ("keep", 1), ("push", 1), ("if", 2),
                                  ("take", 1), ("go", 7))))
        self.assertEqual(table[2], ((("box", "box", U, U), ()),))
        self.assertEqual(table[3], ((("box", "box", U, U), ("blue",)),))
        self.assertEqual(table[6], ((("box", "blue", U, U), ()),))

    def test_steps_to_which_no_road_leads(self):
        table = checked(*of_code((("go", 2), ("add",), ("go", 2))))
        self.assertEqual(table, (((CELLS, ()),), (), ((CELLS, ()),)))

    def test_kinds_that_have_no_class_above_both(self):
        code = (("push", 1), ("if", 4), ("push", 1), ("go", 5), ("none",), ("keep", 1), ("take", 1), ("drop",), ("go", 8))
        self.assertEqual(checked(*of_code(code))[6], ((("box", "odd", U, U), ()),))
        self.assertEqual(checked(*of_code(code))[7], ((("box", "odd", U, U), ("odd",)),))
        self.assertIsNone(checked(*of_code(code[:7] + (("print",), ("go", 8)))))
        self.assertIsNone(checked(*of_code(code[:7] + (("enter",), ("go", 8)))))

    def test_an_unset_local_stays_unset(self):
        code = (("push", 1), ("if", 4), ("push", 1), ("keep", 1), ("go", 4))
        self.assertEqual(checked(*of_code(code))[4], ((CELLS, ()),))
        self.assertIsNone(checked(*of_code(code[:4] + (("take", 1), ("go", 5)))))

    def test_not_let(self):
        self.assertEqual(not_let(House(FAMILY)), [])
        self.assertEqual(not_let(NOT_LET[0]), [("box", 2)])
        bad = ("p", (), "num", (("add",), ("give",)), ())
        good = ("q", (), "num", GIVE, ())
        house = House((("a", "top", (), (bad, good)), ("b", "a", (), (good, bad)), ("c", "top", (), (bad,))))
        self.assertEqual(not_let(house), [("a", 0), ("b", 1), ("c", 0)])
        found = not_let(house)
        found.clear()
        self.assertEqual(len(not_let(house)), 3)


class ShowsTableTest(unittest.TestCase):
    METHOD = of_code(CODE[:8] + (("take", 0), ("give",)), (), ("num",), "box")

    def test_tables_that_hold(self):
        table = checked(*self.METHOD)
        self.assertIs(shows_table(*self.METHOD, table), True)
        # A local that nothing takes may be told wider, a step may have further frames, of other heights.
        wider = tuple(tuple(((*cells[:2], U, U), stack) for cells, stack in frames) for frames in table)
        self.assertIs(shows_table(*self.METHOD, wider), True)
        more = changed(table, (9,), table[9] + ((B1, ("num", "none")),))
        self.assertIs(shows_table(*self.METHOD, more), True)
        self.assertIs(shows_table(*of_code((("go", 0), ("none",), ("give",))),
                                  (((CELLS, ()),), (), ((CELLS, ("num",)),))), True)

    def test_one_thing_changed(self):
        table = checked(*self.METHOD)
        for step in range(len(table)):
            self.assertIs(shows_table(*self.METHOD, changed(table, (step,), ())), False, step)
            self.assertIs(shows_table(*self.METHOD, table[:step] + table[step + 1:]), False)
            self.assertIs(shows_table(*self.METHOD, changed(table, (step,), list(table[step]))), False)
            self.assertIs(shows_table(*self.METHOD, changed(table, (step,), table[step] * 2)), False)
            frame = table[step][0]
            grown = (frame[0], frame[1] + ("num",))
            self.assertIs(shows_table(*self.METHOD, changed(table, (step,), (grown,))), False)
            self.assertIs(shows_table(*self.METHOD, changed(table, (step,), (grown, frame))), False)
            for cell in range(2):
                for kind in ("none", "egg"):
                    self.assertIs(shows_table(*self.METHOD, changed(table, (step, 0, 0, cell), kind)), False)
        for step, kind in [(1, "none"), (1, "odd"), (3, "blue"), (3, "none"), (3, "top"), (5, "red"), (7, "odd"), (9, "red"),
                           (9, "top"), (5, "unset"), (5, "gray")]:
            wrong = changed(table, (step, 0, 1, 0), kind)
            self.assertIs(shows_table(*self.METHOD, wrong), False, (step, kind))

    def test_a_step_goes_wrong_on_a_further_frame(self):
        table = checked(*self.METHOD)
        self.assertIs(shows_table(*self.METHOD, changed(table, (9,), ((B1, ()),) + table[9])), False)
        self.assertIs(shows_table(*self.METHOD, changed(table, (9,), table[9] + ((B1, ("box", "num")),))), False)

    def test_what_a_handler_turns_to(self):
        method = of_code((("push", 1), ("go", 1)), ((0, 1, "egg", 1),))
        self.assertIs(shows_table(*method, (((CELLS, ()),), ((CELLS, ("odd",)),))), True)
        self.assertIs(shows_table(*method, (((CELLS, ()),), ((CELLS, ("num",)),))), False)
        self.assertEqual(checked(*method), (((CELLS, ()),), ((CELLS, ("odd",)),)))

    def test_no_table_where_a_road_is_wrong(self):
        self.assertIs(shows_table(*NOT_LET, TABLE), False)
        self.assertIs(shows_table(*NOT_LET, checked(*LET)), False)

    def test_values_of_every_kind(self):
        table = checked(*self.METHOD)
        for value in STRAY:
            self.assertIs(shows_table(*self.METHOD, value), False)
            self.assertIs(shows_table(*self.METHOD, (value,) * 10), False)
            for path in [(0,), (0, 0), (0, 0, 0), (9, 0, 1), (0, 0, 0, 3), (9, 0, 1, 0)]:
                self.assertIs(shows_table(*self.METHOD, changed(table, path, value)), False)
        self.assertIs(shows_table(*self.METHOD, list(table)), False)
        self.assertIs(shows_table(*self.METHOD, table + ((),)), False)
        self.assertIs(shows_table(*self.METHOD, ()), False)


class VerdictTest(unittest.TestCase):
    def test_verdicts(self):
        self.assertEqual(verdict(*LET), ("table", checked(*LET)))
        told = verdict(*NOT_LET)
        self.assertEqual(told[0], "road")
        self.assertIs(is_wrong_road(*NOT_LET, told[1]), True)

    def test_shows_verdict(self):
        table, road = checked(*LET), wrong_road(*NOT_LET)
        self.assertIs(shows_verdict(*LET, ("table", table)), True)
        self.assertIs(shows_verdict(*NOT_LET, ("road", road)), True)
        loop = ((1, -1), (2, -1), (3, -1), (5, -1), (6, -1), (7, -1), (0, -1))
        self.assertIs(shows_verdict(*NOT_LET, ("road", loop + road)), True)
        for value in [("road", table), ("table", road), ("road", road), ("table", ()), ("road", ()), ["table", table],
                      ("table", table, 1), ("table",), ("Table", table), (None, table), table, road, ("table", list(table))]:
            self.assertIs(shows_verdict(*LET, value), False)
        for value in [("table", table), ("way", road), (None, road), (road, road), ("road", road[:-1]), ("road", list(road)), ["road", road], ("table", road), road]:
            self.assertIs(shows_verdict(*NOT_LET, value), False)

    def test_values_of_every_kind(self):
        for method in (LET, NOT_LET):
            for value in STRAY:
                self.assertIs(shows_verdict(*method, value), False)
                self.assertIs(shows_verdict(*method, ("table", value)), False)
                self.assertIs(shows_verdict(*method, ("road", value)), False)
                self.assertIs(shows_verdict(*method, (value, checked(*LET))), False)


class JumpedToTest(unittest.TestCase):
    def test_goals(self):
        self.assertEqual(jumped_to(*LET), (0, 4, 5, 8))
        self.assertEqual(jumped_to(*of_code(GIVE)), ())
        self.assertEqual(jumped_to(*of_code((("go", 2), ("go", 2), ("go", 1)))), (1, 2))
        self.assertEqual(jumped_to(*of_code(GIVE, ((0, 1, "top", 1), (0, 1, "box", 0)))), (0, 1))


class WalkTest(unittest.TestCase, Raising):
    def test_told_frames_pass(self):
        told = told_frames(*LET)
        table = checked(*LET)
        self.assertEqual(told, (table[0], table[4], table[5], table[8]))
        self.assertIs(walk_passes(*LET, told), True)
        self.assertIsNone(told_frames(*NOT_LET))
        self.assertEqual(told_frames(*of_code(GIVE)), ())
        self.assertIs(walk_passes(*of_code(GIVE), ()), True)
        self.assertIs(walk_passes(*of_code((("push", 1), ("add",), ("give",))), ()), False)

    def test_walks_that_do_not_pass(self):
        told = told_frames(*LET)
        for index in range(4):
            self.assertIs(walk_passes(*LET, changed(told, (index,), ())), False)
            grown = (told[index][0][0], told[index][0][1] + ("num",))
            self.assertIs(walk_passes(*LET, changed(told, (index,), (grown,))), False)
        for path, kind in [((2, 0, 1, 0), "red"), ((1, 0, 0, 1), "none"), ((3, 1, 1, 0), "red"), ((0, 0, 0, 0), "red"),
                           ((0, 0, 0, 2), "num"), ((3, 0, 0, 2), "num")]:
            self.assertIs(walk_passes(*LET, changed(told, path, kind)), False, path)

    def test_wider_frames_pass_if_nothing_goes_wrong(self):
        told = told_frames(*LET)
        self.assertIs(walk_passes(*LET, changed(told, (2, 0, 1, 0), "top")), False)
        free = changed(told, (3, 0, 0, 2), U)
        self.assertIs(walk_passes(*LET, free), True)
        self.assertIs(walk_passes(*LET, changed(free, (2, 0, 1, 0), "top")), True)
        self.assertIs(walk_passes(*LET, changed(free, (2, 0, 1, 0), "odd")), True)
        self.assertIs(walk_passes(*LET, changed(free, (0, 0, 0, 0), "top")), False)

    def test_the_first_frame_fits_one_of_step_0(self):
        method = of_code((("push", 1), ("if", 0), ("push", 1), ("give",)))
        self.assertIs(walk_passes(*method, (((CELLS, ()),),)), True)
        self.assertIs(walk_passes(*method, (((("top", U, U, U), ()),),)), True)
        self.assertIs(walk_passes(*method, (((("red", U, U, U), ()),),)), False)
        self.assertIs(walk_passes(*method, ((),)), False)

    def test_steps_behind_which_nothing_goes_on(self):
        # Nothing comes to the add, so nothing is taken there.
        for word in ("give", "throw"):
            lay = ("push", 1) if word == "give" else ("none",)
            self.assertIs(walk_passes(*of_code((lay, (word,), ("add",), ("give",))), ()), True)
        self.assertIs(walk_passes(*of_code((("go", 2), ("add",), ("go", 2))), (((CELLS, ()),),)), True)
        self.assertIs(walk_passes(*of_code((("go", 1), ("add",), ("go", 2))), (((CELLS, ()),), ())), False)

    def test_told_frames_of_steps_that_no_road_comes_to_count(self):
        method = of_code((("go", 0), ("add",), ("go", 1)))
        self.assertIs(walk_passes(*method, (((CELLS, ()),), ())), True)
        self.assertIs(walk_passes(*method, (((CELLS, ()),), ((CELLS, ()),))), False)
        self.assertIs(walk_passes(*method, (((CELLS, ()),), ((CELLS, ("num", "num")),))), False)

    def test_an_if_goes_on_to_a_step_that_is_not_jumped_to(self):
        method = of_code((("push", 1), ("if", 4), ("add",), ("go", 4), ("go", 4)))
        self.assertIs(walk_passes(*method, (((CELLS, ()),),)), False)
        method = of_code((("push", 1), ("if", 4), ("none",), ("throw",), ("go", 4)))
        self.assertIs(walk_passes(*method, (((CELLS, ()),),)), True)

    def test_bad_told(self):
        told = told_frames(*LET)
        for value in STRAY + [told[:3], told + ((),), list(told)]:
            self.raises(BadTold, walk_passes, *LET, value, index=None)
        for value in STRAY:
            if value != ():
                for index in range(4):
                    self.raises(BadTold, walk_passes, *LET, changed(told, (index,), value), index=index)
            self.raises(BadTold, walk_passes, *LET, changed(told, (2,), told[2] + (value,)), index=2)
        high = (B1, ("num",))
        for frames in [list(told[1]), (told[1][0], told[1][0]), (high, told[1][0]), (high, (B1, ("none",))),
                       ((B1, ("unset",)),), ((B1, ("num",) * 7),), (list(told[1][0]),), ((B1,),)]:
            self.raises(BadTold, walk_passes, *LET, changed(changed(told, (1,), frames), (3,), 5), index=1)
        self.raises(BadTold, walk_passes, *of_code(GIVE), [], index=None)
        self.raises(BadTold, walk_passes, *of_code(GIVE), ((),), index=None)

    def test_greatest_height(self):
        self.assertEqual(greatest_height(*LET), 2)
        self.assertIsNone(greatest_height(*NOT_LET))
        self.assertEqual(greatest_height(*of_code((("go", 0),))), 0)
        self.assertEqual(greatest_height(*of_code((*[("push", 1)] * 6, ("give",)))), 6)
        self.assertIsNone(greatest_height(*of_code((*[("push", 1)] * 7, ("give",)))))
        self.assertEqual(greatest_height(*of_code((("go", 0),), ((0, 1, "top", 0),))), 1)


class WrongArgumentsTest(unittest.TestCase, Raising):
    def test_the_first_argument_is_told(self):
        plain = [checked, told_frames, verdict, jumped_to, greatest_height]
        valued = [shows_table, shows_verdict, walk_passes]
        for function, more in [(function, ()) for function in plain] + [(function, (5,)) for function in valued]:
            self.strays_raise(NoHouse, lambda value: function(value, 1, 2, *more), strays(STRAY[-1]) + [FAMILY])
            self.strays_raise(BadName, lambda value: function(LET[0], value, 9, *more), STRAY + ["num", "gray"])
            self.strays_raise(BadPlace, lambda value: function(LET[0], "box", value, *more), STRAY + [3, "0"])
            self.raises(BadPlace, function, LET[0], "top", 0, *more)
            self.raises(BadPlace, function, LET[0], "egg", 0, *more)
        self.strays_raise(NoHouse, not_let, strays(STRAY[-1]) + [FAMILY])


class ManyMethodsTest(unittest.TestCase):
    def test_tables_and_walks(self):
        for seed in range(120):
            house = Maker(seed).house(10)
            refused = []
            for name, place in methods_in(house):
                roads = all_frames(house, name, place)
                table = checked(house, name, place)
                road = wrong_road(house, name, place)
                self.assertIs(table is None, road is not None)
                if table is None:
                    refused.append((name, place))
                    self.assertIs(shows_verdict(house, name, place, verdict(house, name, place)), True)
                    self.assertIs(shows_table(house, name, place, ((),) * len(code_of(house, name, place))), False)
                    continue
                if roads is not None:
                    self.assertEqual(table, table_of(house, name, place, roads))
                    self.assertEqual(greatest_height(house, name, place), max(len(frame[1]) for _, frame in roads))
                self.assertIs(shows_table(house, name, place, table), True)
                self.assertIs(shows_verdict(house, name, place, ("table", table)), True)
                self.assertIs(walk_passes(house, name, place, told_frames(house, name, place)), True)
                self.assertTrue(frame_fits(house, first_frame(house, name, place), table[0][0]))
            self.assertEqual(not_let(house), refused)

    def test_runs_do_not_go_wrong_in_methods_that_are_let_by(self):
        met = 0
        for seed in range(150):
            house = Maker(seed).house(12)
            tables = {spot: checked(house, *spot) for spot in methods_in(house)}
            for name, place in methods_in(house):
                word, kinds = [row[3][place][:2] for row in house.classes if row[0] == name][0]
                ins = tuple(3 if kind == "num" else None for kind in kinds)
                try:
                    end = run(house, name, word, ins)
                except TooLong:
                    continue
                self.assertTrue(end[0] != "wrong" or tables[end[1:3]] is None)
                things = things_of(house, name, word, ins)
                self.met_frames(house, tables, things, trace(house, name, word, ins, 300))
                met += end[0] != "wrong"
        self.assertGreater(met, 100)

    def met_frames(self, house, tables, things, states):
        """The uppermost frames of states fit what checked has."""
        for state in states:
            name, place, step, cells, stack = state[-1]
            if tables[(name, place)] is None:
                continue
            frames = [frame for frame in tables[(name, place)][step] if len(frame[1]) == len(stack)]
            self.assertEqual(len(frames), 1)
            frame = (tuple(kind_of(value, things) for value in cells), tuple(kind_of(value, things) for value in stack))
            self.assertTrue(frame_fits(house, frame, frames[0]))


def kind_of(value, things):
    """The kind of a value that stands in a state."""
    if value == "unset":
        return "unset"
    if value is None:
        return "none"
    return "num" if isinstance(value, int) else things[value[1]]


if __name__ == "__main__":
    unittest.main()
