"""What methods hold: points 1, 37, 38 and 39."""

import random
import unittest

from helpers import FAMILY, STRAY, Raising, changed, family_with, strays

from classhouse.errors import BadName, BadWord, NoHouse, NoMethod, NotPlain
from classhouse.houses import House
from classhouse.monitors import (astray_road, hold_table, holds_met, is_plain, shows_astray, shows_table, to_ends)

ZERO = (0, 0, 0, 0)
ENTER, LEAVE = (("take", 0), ("enter",)), (("take", 0), ("leave",))
GIVE = (("push", 1), ("give",))
FUNCTIONS = [holds_met, astray_road, hold_table, to_ends, lambda *args: shows_astray(*args, (0,)),
             lambda *args: shows_table(*args, (ZERO,))]


def method_in(house):
    return house.classes[0][3][-1]


def plain_next(method, index):
    """The steps to which a step leads."""
    code, handlers = method[3:]
    found = [row[3] for row in handlers if row[0] <= index < row[1]]
    if code[index][0] in ("go", "if"):
        found.append(code[index][1])
    if code[index][0] not in ("go", "give", "throw"):
        found.append(index + 1)
    return sorted(set(found))


def is_last(method, index):
    word = method[3][index][0]
    return word == "give" or word == "throw" and not any(
        row[0] <= index < row[1] and row[2] == "top" for row in method[4])


def goes_astray(method, index, holds):
    code = method[3]
    word = code[index][0]
    if word in ("enter", "leave"):
        return holds[code[index - 1][1]] == (6 if word == "enter" else 0)
    if word == "keep":
        return holds[code[index][1]] > 0
    return is_last(method, index) and sum(holds) > 0


def holds_at_end(method, road):
    """The holds at the end of a road of steps, None if it goes astray ahead of its end, or is none."""
    holds = ZERO
    for index, goal in zip(road, road[1:]):
        if goes_astray(method, index, holds) or goal not in plain_next(method, index):
            return None
        word = method[3][index][0]
        if word in ("enter", "leave") and goal == index + 1:
            local = method[3][index - 1][1]
            holds = tuple(many + (local == at) * (1 if word == "enter" else -1) for at, many in enumerate(holds))
    return holds


def shortest_astray(method, most):
    """The least of the shortest roads of at most so many steps that go astray, by all roads; None if there is none."""
    roads = [(0,)]
    for _ in range(most):
        for road in roads:
            if goes_astray(method, road[-1], holds_at_end(method, road)):
                return road
        roads = [road + (goal,) for road in roads for goal in plain_next(method, road[-1])]
        if len(roads) > 3000:
            return "many"
    return None


def all_holds(method):
    """The set of the pairs (step, holds) to which roads come, by single steps."""
    found, todo = {(0, ZERO)}, [(0, ZERO)]
    while todo:
        index, holds = todo.pop()
        if goes_astray(method, index, holds):
            continue
        for goal in plain_next(method, index):
            onward = list(holds)
            if goal == index + 1 and method[3][index][0] in ("enter", "leave"):
                onward[method[3][index - 1][1]] += 1 if method[3][index][0] == "enter" else -1
            if (goal, tuple(onward)) not in found:
                found.add((goal, tuple(onward)))
                todo.append((goal, tuple(onward)))
    return found


def any_plain(seed):
    """A house with a method "test" in which each enter and leave stands behind a take, and is no goal."""
    chance = random.Random(seed)
    blocks = []
    for _ in range(chance.randint(1, 7)):
        word = chance.choice(["enter", "enter", "leave", "leave", "leave", "keep", "if", "go", "push", "throw", "give"])
        if word in ("enter", "leave"):
            blocks.append((("take", chance.choice([0, 0, 0, 1])), (word,)))
        elif word == "keep":
            blocks.append((("push", 1), ("keep", chance.choice([0, 1, 2, 3]))))
        elif word in ("if", "go"):
            blocks.append((("push", 1), (word, 0)))
        else:
            blocks.append(((word, 1) if word == "push" else (word,),))
    code = [step for block in blocks for step in block] + [chance.choice([("give",), ("give",), ("throw",), ("go", 0)])]
    goals = [at for at, step in enumerate(code) if step[0] not in ("enter", "leave")]
    code = [(step[0], chance.choice(goals)) if step[0] in ("if", "go") else step for step in code]
    handlers = []
    for _ in range(chance.choice([0, 0, 1, 2])):
        begin = chance.randint(0, len(code) - 1)
        handlers.append((begin, chance.randint(begin + 1, len(code)), chance.choice(["top", "box"]), chance.choice(goals)))
    return family_with(tuple(code), tuple(handlers))


class PlainTest(unittest.TestCase, Raising):
    def test_example(self):
        lock = ("lock", (), "num", (("take", 0), ("enter",), ("take", 0), ("leave",), ("push", 1), ("give",)), ())
        spill = ("spill", (), "num", (("take", 0), ("enter",), ("push", 1), ("give",)), ())
        house = House((("box", "top", (), (lock, spill)),))
        self.assertEqual([is_plain(house, "box", "lock"), hold_table(house, "box", "lock")[:4],
                          astray_road(house, "box", "lock"), to_ends(house, "box", "spill")],
                         [True, ((0, 0, 0, 0), (0, 0, 0, 0), (1, 0, 0, 0), (1, 0, 0, 0)), None, (0, 1, 2, 3)])
        self.assertEqual([hold_table(house, "box", "spill"), astray_road(house, "box", "spill"),
                          shows_astray(house, "box", "spill", (0, 1, 2)), holds_met(house, "box", "spill")[3]],
                         [None, (0, 1, 2, 3), False, ((1, 0, 0, 0),)])
        self.assertTrue(shows_table(house, "box", "lock", hold_table(house, "box", "lock")))

    def test_plain_methods(self):
        for code, handlers in [(GIVE, ()), (ENTER + LEAVE + GIVE, ()), (ENTER + GIVE, ()), (LEAVE + GIVE, ()),
                               (ENTER + (("go", 0),), ((0, 3, "top", 2), (0, 2, "box", 0)))]:
            house = family_with(code, handlers)
            self.assertIs(is_plain(house, "box", "test"), True)
            self.assertEqual(len(holds_met(house, "box", "test")), len(code))

    def test_methods_that_are_not_plain(self):
        for code, handlers in [
                ((("enter",),) + GIVE, ()), ((("leave",),) + GIVE, ()), ((("push", 1), ("enter",)) + GIVE, ()),
                ((("take", 0), ("copy",), ("leave",)) + GIVE, ()), (ENTER + (("enter",),) + GIVE, ()),
                (ENTER + (("go", 1),), ()), (ENTER + (("push", 0), ("if", 1)) + GIVE, ()),
                (ENTER + GIVE, ((3, 4, "egg", 1),)), (LEAVE + (("go", 1),), ()),
                (ENTER + LEAVE + GIVE, ((0, 1, "egg", 0), (0, 1, "egg", 3))), (GIVE + (("enter",), ("give",)), ())]:
            house = family_with(code, handlers)
            self.assertIs(is_plain(house, "box", "test"), False)
            for function in FUNCTIONS:
                self.raises(NotPlain, function, house, "box", "test")
            for value in STRAY:
                self.raises(NotPlain, shows_astray, house, "box", "test", value)
                self.raises(NotPlain, shows_table, house, "box", "test", value)

    def test_words_of_steps_may_be_names(self):
        names = ("enter", "leave", "keep", "throw", "give")
        classes = tuple((name, "top", ((name, "num"),), ()) for name in names)
        code = ENTER + tuple(step for name in names for step in [("new", name), ("get", name, name), ("drop",)])
        method = ("give", (), "num", code + (("go", 17),), ())
        house = House((*classes[:-1], classes[-1][:3] + ((method,),)))
        self.assertTrue(is_plain(house, "give", "give"))
        self.assertEqual(holds_met(house, "give", "give"), ((ZERO,),) * 2 + (((1, 0, 0, 0),),) * 16)
        self.assertEqual([astray_road(house, "give", "give"), to_ends(house, "give", "give")], [None, ()])

    def test_the_nearest_method_is_told(self):
        house = family_with(ENTER + LEAVE + GIVE)
        self.assertEqual(hold_table(house, "pink", "test"), hold_table(house, "box", "test"))
        below = House(house.classes[:1] + (
            ("red", "box", (("w", "egg"),), (("test", (), "num", ENTER + GIVE, ()),)),) + house.classes[2:])
        self.assertIsNone(hold_table(below, "pink", "test"))
        self.assertIsNotNone(hold_table(below, "blue", "test"))

    def test_wrong_arguments(self):
        house = family_with(ENTER + GIVE)
        for function in [is_plain, *FUNCTIONS]:
            self.strays_raise(NoHouse, lambda value: function(value, "box", "test"), strays(STRAY[-1]) + [FAMILY])
            self.strays_raise(BadName, lambda value: function(house, value, "test"), STRAY + ["num", "gray"])
            self.strays_raise(BadWord, lambda value: function(house, "box", value), STRAY + ["Test", "testing"])
            for name, word in [("top", "test"), ("egg", "test"), ("box", "roll"), ("box", "x")]:
                self.raises(NoMethod, function, house, name, word)
            self.raises(NoHouse, function, 1, 2, 3)
            self.raises(BadName, function, house, 2, 3)
            self.raises(BadWord, function, house, "top", 3)


class HoldsTest(unittest.TestCase, Raising):
    def told(self, code, handlers=()):
        """The holds of local 0 at each step, with which roads come to it, and the road that goes astray."""
        house = family_with(code, handlers)
        met = holds_met(house, "box", "test")
        self.assertTrue(all(holds[1:] == (0, 0, 0) for found in met for holds in found))
        return [tuple(holds[0] for holds in found) for found in met], astray_road(house, "box", "test")

    def test_enters_and_leaves(self):
        self.assertEqual(self.told(ENTER + ENTER + LEAVE + LEAVE + GIVE),
                         ([(0,), (0,), (1,), (1,), (2,), (2,), (1,), (1,), (0,), (0,)], None))
        self.assertEqual(self.told(LEAVE + GIVE), ([(0,), (0,), (), ()], (0, 1)))
        self.assertEqual(self.told(ENTER + GIVE), ([(0,), (0,), (1,), (1,)], (0, 1, 2, 3)))

    def test_each_local_for_itself(self):
        code = tuple(step for at in range(4) for _ in range(at) for step in (("take", at), ("enter",))) + GIVE
        house = family_with(code)
        self.assertEqual(holds_met(house, "box", "test")[-1], ((0, 1, 2, 3),))
        self.assertEqual(holds_met(house, "box", "test")[7], ((0, 1, 2, 0),))
        self.assertEqual(astray_road(house, "box", "test"), tuple(range(14)))
        other = family_with((("take", 1), ("enter",), ("take", 2), ("leave",)) + GIVE)
        self.assertEqual(astray_road(other, "box", "test"), (0, 1, 2, 3))

    def test_six_holds_and_beyond(self):
        self.assertEqual(self.told(ENTER * 6 + GIVE)[1], tuple(range(14)))
        self.assertEqual(self.told(ENTER * 7 + GIVE)[1], tuple(range(14)))
        self.assertEqual(self.told(ENTER * 6 + GIVE)[0][-1], (6,))
        self.assertEqual(self.told(ENTER * 7 + GIVE)[0][-3:], [(6,), (), ()])
        self.assertEqual(self.told(ENTER + (("go", 0),)),
                         ([(0, 1, 2, 3, 4, 5, 6), (0, 1, 2, 3, 4, 5, 6), (1, 2, 3, 4, 5, 6)], (0, 1, 2) * 6 + (0, 1)))

    def test_keeps(self):
        self.assertEqual(self.told(ENTER + (("push", 1), ("keep", 0)) + LEAVE + GIVE)[1], (0, 1, 2, 3))
        self.assertEqual(self.told(ENTER + (("push", 1), ("keep", 1)) + LEAVE + GIVE)[1], None)
        self.assertEqual(self.told((("push", 1), ("keep", 0)) + ENTER + LEAVE + GIVE)[1], None)

    def test_throws(self):
        code = ENTER + (("new", "egg"), ("throw",)) + LEAVE + GIVE
        self.assertEqual(self.told(code)[1], (0, 1, 2, 3))
        self.assertEqual(self.told(code, ((3, 4, "egg", 4),))[1], (0, 1, 2, 3))
        self.assertEqual(self.told(code, ((3, 4, "top", 4),))[1], None)
        self.assertEqual(self.told(code, ((3, 4, "egg", 4), (3, 4, "box", 4), (2, 4, "top", 4)))[1], None)
        self.assertEqual(self.told((("new", "egg"), ("throw",)))[1], None)

    def test_handlers_keep_the_holds_ahead_of_the_step(self):
        code = ENTER + (("push", 1), ("push", 2)) + LEAVE + GIVE
        self.assertEqual(self.told(code, ((0, 2, "top", 6),)), ([(0,), (0,), (1,), (1,), (1,), (1,), (0,), (0,)], None))
        self.assertEqual(self.told(code, ((1, 3, "egg", 6),))[1], (0, 1, 2, 6, 7))
        self.assertEqual(self.told(code, ((5, 6, "egg", 4),))[0][4:], [(1,), (1,), (0,), (0,)])
        self.assertEqual(self.told(code, ((5, 7, "egg", 4),)), (
            [(0,), (0,), (1,), (1,), (0, 1), (0, 1), (0,), (0,)], (0, 1, 2, 3, 4, 5, 6, 4, 5)))

    def test_a_handlers_goal_right_behind_an_enter(self):
        code = ENTER + (("push", 1),) + LEAVE + GIVE
        self.assertEqual(self.told(code, ((1, 2, "top", 2),)), ([(0,), (0,), (1,), (1,), (1,), (0,), (0,)], None))
        self.assertEqual(self.told(code, ((0, 1, "top", 2),))[0][2], (0, 1))
        self.assertEqual(self.told(ENTER + LEAVE + GIVE, ((3, 4, "top", 4),))[1], None)

    def test_ifs_and_gos(self):
        code = (("push", 1), ("if", 5), ("take", 0), ("enter",), ("go", 5), ("push", 1), ("give",))
        self.assertEqual(self.told(code), ([(0,)] * 4 + [(1,), (0, 1), (0, 1)], (0, 1, 2, 3, 4, 5, 6)))
        self.assertEqual(self.told((("go", 3),) + ENTER + (("go", 0),))[0], [(0,), (), (), (0,)])
        self.assertEqual(self.told((("push", 1), ("if", 2)) + GIVE)[1], None)

    def test_the_least_of_the_shortest_roads(self):
        code = (("push", 1), ("if", 4), ("take", 0), ("leave",), ("take", 0), ("leave",)) + GIVE
        self.assertEqual(self.told(code)[1], (0, 1, 2, 3))
        code = (("push", 1), ("if", 5), ("push", 1), ("take", 0), ("leave",), ("take", 0), ("leave",)) + GIVE
        self.assertEqual(self.told(code)[1], (0, 1, 5, 6))

    def test_made_methods_by_all_roads(self):
        told = {"none": 0, "road": 0, "table": 0}
        for seed in range(700):
            house = any_plain(seed)
            method, args = method_in(house), (house, "box", "test")
            self.assertTrue(is_plain(*args))
            spots = all_holds(method)
            met = tuple(tuple(sorted(holds for at, holds in spots if at == index)) for index in range(len(method[3])))
            self.assertEqual(holds_met(*args), met)
            astray = [spot for spot in spots if goes_astray(method, *spot)]
            road = astray_road(*args)
            self.assertEqual(road is None, not astray)
            if road is not None:
                self.assertTrue(shows_astray(*args, road))
                self.assertIn((road[-1], holds_at_end(method, road)), astray)
                plain = shortest_astray(method, min(len(road), 12))
                self.assertIn(plain, ["many", road] + [None] * (len(road) > 12))
                told["road"] += plain == road
            wanted = None
            if not astray and all(len(found) < 2 for found in met):
                wanted = tuple(found[0] if found else None for found in met)
                self.assertTrue(shows_table(*args, wanted))
                told["table"] += 1
            self.assertEqual(hold_table(*args), wanted)
            told["none"] += wanted is None and road is None
            self.compare_ends(method, to_ends(*args))
        self.assertGreater(min(told["road"], told["table"]), 150)

    def compare_ends(self, method, ends):
        for index in range(len(method[3])):
            found, todo = {index}, [index]
            while todo:
                for goal in plain_next(method, todo.pop()):
                    if goal not in found:
                        found.add(goal)
                        todo.append(goal)
            self.assertEqual(index in ends, any(is_last(method, step) for step in found))
        self.assertEqual(ends, tuple(sorted(ends)))

    def test_steps_that_lead_to_no_end(self):
        self.assertEqual(to_ends(family_with((("go", 0),)), "box", "test"), ())
        code = (("push", 1), ("if", 4), ("push", 1), ("give",), ("push", 1), ("go", 4))
        self.assertEqual(to_ends(family_with(code), "box", "test"), (0, 1, 2, 3))
        self.assertEqual(to_ends(family_with(code, ((5, 6, "egg", 2),)), "box", "test"), (0, 1, 2, 3, 4, 5))
        code = (("new", "egg"), ("throw",), ("go", 2))
        self.assertEqual(to_ends(family_with(code), "box", "test"), (0, 1))
        self.assertEqual(to_ends(family_with(code, ((1, 2, "egg", 2),)), "box", "test"), (0, 1))
        self.assertEqual(to_ends(family_with(code, ((0, 2, "top", 2),)), "box", "test"), ())

    def test_steps_to_which_no_road_comes_lead_to_ends_too(self):
        self.assertEqual(to_ends(family_with((("go", 0), ("push", 1), ("give",))), "box", "test"), (1, 2))
        self.assertEqual(to_ends(family_with(LEAVE + GIVE), "box", "test"), (0, 1, 2, 3))


class ShowsAstrayTest(unittest.TestCase):
    def test_made_roads(self):
        many = [0, 0]
        for seed in range(250):
            house = any_plain(seed)
            method, chance = method_in(house), random.Random(seed)
            for _ in range(12):
                road = (0,)
                while chance.random() < 0.93 and plain_next(method, road[-1]):
                    road += (chance.choice(plain_next(method, road[-1])),)
                if chance.random() < 0.2:
                    road = changed(road, (chance.randint(0, len(road) - 1),), chance.randint(0, len(method[3]) - 1))
                holds = holds_at_end(method, road) if road[0] == 0 else None
                wanted = holds is not None and goes_astray(method, road[-1], holds)
                self.assertIs(shows_astray(house, "box", "test", road), wanted)
                many[wanted] += 1
        self.assertGreater(min(many), 150)

    def test_roads(self):
        house = family_with(ENTER + LEAVE + LEAVE + GIVE, ((1, 2, "egg", 6),))
        for road, wanted in [((0, 1, 2, 3, 4, 5), True), ((0, 1, 2, 3, 4), False), ((0, 1, 2, 3, 4, 5, 6), False),
                             ((0, 1, 6, 7), False), ((0,), False), ((), False), ((1, 2, 3, 4, 5), False),
                             ((0, 2, 3), False), ((0, 1, 2, 3, 4, 5, 9), False)]:
            self.assertIs(shows_astray(house, "box", "test", road), wanted)
        alone = family_with((("give",),))
        self.assertFalse(shows_astray(alone, "box", "test", (0,)))

    def test_values_of_every_kind(self):
        house = family_with(LEAVE + GIVE)
        self.assertIs(shows_astray(house, "box", "test", (0, 1)), True)
        for value in STRAY + [[0, 1], (False, 1), (0, True), (0, 1, None), (0, "1"), ((0, 1),), "01", (0, [1]), 0, (0, -3)]:
            self.assertIs(shows_astray(house, "box", "test", value), False)


class ShowsTableTest(unittest.TestCase):
    def setUp(self):
        self.house = family_with(ENTER + (("push", 0), ("if", 6)) + LEAVE + (("take", 0), ("leave",)) + GIVE
                                 + (("take", 0), ("enter",), ("go", 10)), ((0, 1, "egg", 0),))
        self.args = (self.house, "box", "test")

    def right(self):
        one = (1, 0, 0, 0)
        return (ZERO, ZERO, one, one, one, one, None, None, None, None, None, None, None)

    def test_tables(self):
        code = ENTER + (("push", 0), ("if", 5), ("go", 5)) + LEAVE + GIVE + ENTER + (("go", 11),)
        args = (family_with(code), "box", "test")
        one = (1, 0, 0, 0)
        table = (ZERO, ZERO, one, one, one, one, one, ZERO, ZERO, None, None, None)
        self.assertEqual(hold_table(*args), table)
        self.assertIs(shows_table(*args, table), True)
        for more in [table[:9] + ((3, 0, 2, 0), (3, 0, 2, 0), (4, 0, 2, 0)), table[:10] + (ZERO, one),
                     table[:11] + ((6, 6, 6, 6),), table[:10] + ((5, 0, 0, 0), (6, 0, 0, 0))]:
            self.assertIs(shows_table(*args, more), True)
        for less in [table[:10] + (ZERO, None), table[:10] + (ZERO, ZERO), table[:9] + (ZERO, one, (2, 0, 0, 0)),
                     table[:10] + ((6, 0, 0, 0), None), table[:10] + ((6, 0, 0, 0), (6, 0, 0, 0)), table[:11],
                     table + (None,), (None,) * 12, (one,) + table[1:], list(table), (None,) + table[1:]]:
            self.assertIs(shows_table(*args, less), False)
        for at in range(12):
            for part in [None, ZERO, one, (2, 0, 0, 0), (0, 0, 0, 1)]:
                if part != table[at]:
                    told = shows_table(*args, table[:at] + (part,) + table[at + 1:])
                    self.assertIs(told, at == 11 and part is not None)

    def test_tables_of_a_method_that_goes_astray(self):
        self.assertIsNone(hold_table(*self.args))
        self.assertIs(shows_table(*self.args, self.right()), False)
        args = (family_with(ENTER + GIVE), "box", "test")
        for last in [ZERO, (1, 0, 0, 0), None]:
            self.assertIs(shows_table(*args, (ZERO, ZERO, (1, 0, 0, 0), last)), False)

    def test_no_table_but_no_road_astray(self):
        code = (("push", 0), ("if", 4)) + ENTER + (("push", 0), ("go", 4))
        args = (family_with(code), "box", "test")
        self.assertIsNone(astray_road(*args))
        self.assertIsNone(hold_table(*args))
        for holds in [ZERO, (1, 0, 0, 0), None]:
            self.assertIs(shows_table(*args, (ZERO,) * 4 + (holds,) * 2), False)

    def test_holds_at_keeps_and_throws(self):
        args = (family_with((("new", "egg"), ("throw",), ("push", 1), ("keep", 2), ("go", 2)), ((1, 2, "top", 4),)),
                "box", "test")
        self.assertEqual(hold_table(*args), (ZERO, ZERO, ZERO, ZERO, ZERO))
        self.assertIs(shows_table(*args, (ZERO, ZERO, None, None, ZERO)), False)
        code = (("go", 0), ("push", 1), ("keep", 2), ("new", "egg"), ("throw",))
        for handlers, wanted in [((), False), (((4, 5, "top", 0),), False), (((4, 5, "egg", 4),), False)]:
            args = (family_with(code, handlers), "box", "test")
            holds = (1, 0, 0, 0)
            self.assertIs(shows_table(*args, (ZERO, holds, holds, holds, holds)), wanted)
            self.assertIs(shows_table(*args, (ZERO, ZERO, ZERO, ZERO, ZERO)), True)
        args = (family_with(code, ((4, 5, "top", 4),)), "box", "test")
        for holds, wanted in [((1, 0, 0, 0), True), ((0, 0, 1, 0), False), ((6, 6, 0, 6), True)]:
            self.assertIs(shows_table(*args, (ZERO, holds, holds, holds, holds)), wanted)

    def test_values_of_every_kind(self):
        args = (family_with(GIVE), "box", "test")
        self.assertEqual(hold_table(*args), (ZERO, ZERO))
        self.assertIs(shows_table(*args, (ZERO, ZERO)), True)
        for value in STRAY + [(0, 0, 0, 0), [0, 0, 0, 0], (0, 0, 0), (0, 0, 0, 7), (0, 0, 0, -1), (0, 0, 0, False),
                              (0, 0, 0, None), (0, 0, 0, 0, 0), ("0",) * 4, ((0,),) * 4]:
            self.assertIs(shows_table(*args, value), False)
            if value != ZERO:
                self.assertIs(shows_table(*args, (value, ZERO)), False)
                self.assertIs(shows_table(*args, (ZERO, value)), False)
        loop = (family_with((("go", 0), ("go", 1))), "box", "test")
        for value in strays(None) + [(0, 0, 0, 7), (0, 0, 0, -1), (0, 0, 0, True), [0, 0, 0, 0], (0, 0, 0),
                                     (0, 0, 0, 0, 0)]:
            self.assertIs(shows_table(*loop, (ZERO, value)), False)
        self.assertIs(shows_table(*loop, (ZERO, (0, 6, 0, 1))), True)
        self.assertIs(shows_table(*loop, (ZERO, None)), True)


if __name__ == "__main__":
    unittest.main()
