"""Handlers that catch, and what is thrown in runs: points 1, 32 and 33."""

import random
import unittest

from helpers import FAMILY, NO_TUPLES, STRAY, Maker, Raising, family_with, methods_in, place_of_test, strays, tiny, uppers

from classhouse.errors import BadIns, BadName, BadPile, BadPlace, BadStep, BadWord, NoHouse, NotSeen, TooLong
from classhouse.houses import House
from classhouse.kinds import downward
from classhouse.runs import count_steps, run, things_of
from classhouse.traces import state_behind
from classhouse.unwinding import catching, dead_handlers, faults_of, handler_for, unwound

FIVE = (("none",), ("throw",), ("drop",), ("push", 3), ("give",))
ROWS = ((1, 3, "red", 0), (0, 2, "box", 1), (0, 4, "red", 2), (2, 4, "top", 3))
HOUSE = family_with(FIVE, ROWS)
TEST = place_of_test(HOUSE)


def plain_handler(house, name, place, step, kind):
    """handler_for, told in another way."""
    handlers = [row for row in house.classes if row[0] == name][0][3][place][4]
    for row, (begin, end, caught, _) in enumerate(handlers):
        if begin <= step <= end - 1 and caught in uppers(house, kind):
            return row
    return None


class HandlersTest(unittest.TestCase, Raising):
    def test_example(self):
        rows = ((0, 1, "top", 2), (1, 2, "box", 3), (0, 3, "top", 2), (2, 3, "box", 4))
        house = House((("box", "top", (), (("show", (), "num", FIVE, rows),)),))
        self.assertEqual([handler_for(house, "box", 0, 1, "box"), catching(house, "box", 0, 1),
                          catching(house, "box", 0, 4), dead_handlers(house, "box", 0)],
                         [1, (2, 1), (None, None), (3,)])
        self.assertEqual([unwound(house, (("box", 0, 1), ("box", 0, 3)), "top"), faults_of(house, "box", "show", ())],
                         [(0, 2), [(2, "top", 1, 1)]])

    def test_the_first_one_that_covers_and_has_the_class(self):
        told = [[handler_for(HOUSE, "box", TEST, step, kind) for kind in ("top", "box", "red", "pink", "egg")]
                for step in range(5)]
        self.assertEqual(told, [[None, 1, 1, 1, None], [None, 1, 0, 0, None], [3, 3, 0, 0, 3], [3, 3, 2, 2, 3],
                                [None] * 5])

    def test_catching_has_all_classes_in_order(self):
        self.assertEqual(catching(HOUSE, "box", TEST, 2), (3, 3, 0, 3, 0, 3))
        self.assertEqual(catching(HOUSE, "box", TEST, 0), (None, 1, 1, 1, 1, None))
        self.assertEqual(catching(HOUSE, "box", TEST, 4), (None,) * 6)

    def test_dead_handlers(self):
        self.assertEqual(dead_handlers(HOUSE, "box", TEST), ())
        self.assertEqual(dead_handlers(HOUSE, "box", 0), ())
        for rows, dead in [
                (((0, 5, "top", 0), (0, 5, "red", 0), (4, 5, "top", 1), (0, 1, "pink", 0)), (1, 2, 3)),
                (((0, 2, "box", 0), (2, 5, "box", 0), (0, 5, "red", 0), (0, 5, "box", 0)), (2, 3)),
                (((0, 2, "box", 0), (3, 5, "box", 0), (0, 5, "red", 0)), ()),
                (((0, 3, "pink", 0), (0, 3, "red", 0), (0, 3, "box", 0), (0, 3, "blue", 0)), (3,)),
                (((0, 1, "egg", 0), (0, 1, "egg", 0)), (1,))]:
            house = family_with(FIVE, rows)
            self.assertEqual(dead_handlers(house, "box", place_of_test(house)), dead)

    def test_made_houses(self):
        for seed in range(60):
            house = Maker(seed).house(7)
            for name, place in methods_in(house):
                method = [row for row in house.classes if row[0] == name][0][3][place]
                used = set()
                for step in range(len(method[3])):
                    told = tuple(plain_handler(house, name, place, step, kind) for kind in downward(house, "top"))
                    self.assertEqual(catching(house, name, place, step), told)
                    for kind, row in zip(downward(house, "top"), told):
                        self.assertEqual(handler_for(house, name, place, step, kind), row)
                    used.update(told)
                self.assertEqual(dead_handlers(house, name, place),
                                 tuple(row for row in range(len(method[4])) if row not in used))

    def test_wrong_arguments(self):
        for function, more in [(handler_for, (TEST, 0, "box")), (catching, (TEST, 0)), (dead_handlers, (TEST,))]:
            self.strays_raise(NoHouse, lambda value: function(value, "box", *more), strays(STRAY[-1]) + [FAMILY])
            self.strays_raise(BadName, lambda value: function(HOUSE, value, *more), STRAY + ["gray", "num"])
            self.strays_raise(BadPlace, lambda value: function(HOUSE, "box", value, *more[1:]), STRAY + [3, -1])
            self.strays_raise(BadPlace, lambda value: function(HOUSE, "top", value, *more[1:]), STRAY + [0])
            self.raises(NoHouse, function, 1, 2, *[-1 for _ in more])
            self.raises(BadName, function, HOUSE, 2, *[-1 for _ in more])
            self.raises(BadPlace, function, HOUSE, "box", *[-1 for _ in more])
        for value in STRAY + [5, -1]:
            self.raises(BadStep, handler_for, HOUSE, "box", TEST, value, None)
            self.raises(BadStep, catching, HOUSE, "box", TEST, value)
        self.strays_raise(BadName, lambda value: handler_for(HOUSE, "box", TEST, 0, value), STRAY + ["gray", "num"])


class UnwoundTest(unittest.TestCase, Raising):
    def test_the_uppermost_spot_that_catches(self):
        spot = [("box", TEST, step) for step in range(5)]
        self.assertEqual(unwound(HOUSE, (spot[3],), "red"), (0, 2))
        self.assertIsNone(unwound(HOUSE, (spot[4],), "red"))
        self.assertIsNone(unwound(HOUSE, (spot[0], spot[1], ("egg", 0, 0))[:2], "egg"))
        self.assertEqual(unwound(HOUSE, (spot[2], spot[3], spot[0], spot[4]), "egg"), (1, 3))
        self.assertEqual(unwound(HOUSE, (spot[2], spot[3], spot[0], spot[4]), "pink"), (2, 1))
        self.assertEqual(unwound(HOUSE, (spot[2],) + (spot[4],) * 7, "top"), (0, 3))
        self.assertIsNone(unwound(HOUSE, (("box", 0, 0), ("red", 0, 1), ("blue", 0, 0)), "box"))

    def test_made_piles(self):
        chance = random.Random(5)
        for seed in range(40):
            house = Maker(seed).house(7)
            spots = [(name, place, step) for name, place in methods_in(house)
                     for step in range(len([row for row in house.classes if row[0] == name][0][3][place][3]))]
            for _ in range(20):
                pile = tuple(chance.choice(spots) for _ in range(chance.randint(1, 8)))
                for kind in downward(house, "top"):
                    found = [(index, plain_handler(house, *spot, kind)) for index, spot in enumerate(pile)]
                    found = [pair for pair in found if pair[1] is not None][-1:]
                    told = unwound(house, pile, kind)
                    self.assertEqual(told is None, not found)
                    for index, row in found:
                        name, place, _ = pile[index]
                        method = [other for other in house.classes if other[0] == name][0][3][place]
                        self.assertEqual(told, (index, method[4][row][3]))

    def test_wrong_piles(self):
        for value in NO_TUPLES + [(), (("box", TEST, 0),) * 9, [("box", TEST, 0)]]:
            self.raises(BadPile, unwound, HOUSE, value, None, index=None)
        wrong = [("box", 3, 0), ("box", -1, 0), ("box", TEST, 5), ("box", TEST, -1), ("top", 0, 0), ("egg", 0, 0),
                 ("gray", 0, 0), ("box", True, 0), ("box", 0, True), ("box", 0), ("box", 0, 0, 0), ["box", 0, 0],
                 (None, 0, 0), (["box"], 0, 0), ("box", None, 0), ("box", 0, None), ("box", 0, 2)]
        for value in wrong + STRAY:
            self.raises(BadPile, unwound, HOUSE, (("box", 0, 0), value, None), None, index=1)
            self.raises(BadPile, unwound, HOUSE, (value,), "box", index=0)

    def test_wrong_kinds_and_houses(self):
        pile = (("box", TEST, 0),)
        self.strays_raise(BadName, lambda value: unwound(HOUSE, pile, value), STRAY + ["gray", "num"])
        for value in strays(STRAY[-1]) + [FAMILY]:
            self.raises(NoHouse, unwound, value, pile, "box")
            self.raises(NoHouse, unwound, value, None, None)


class FaultsTest(unittest.TestCase, Raising):
    def test_a_throw_that_nobody_catches(self):
        house = family_with((("new", "egg"), ("throw",)))
        self.assertEqual(faults_of(house, "box", "test", ()), [(2, "egg", 1, 0)])
        self.assertEqual(faults_of(HOUSE, "box", "show", ()), [])

    def test_faults_and_throws_caught_in_the_same_frame(self):
        code = (("none",), ("get", "box", "x"), ("drop",), ("new", "red"), ("throw",), ("give",))
        house = family_with(code, ((0, 2, "top", 2), (4, 5, "box", 3)))
        self.raises(TooLong, faults_of, house, "box", "test", (), most=2000)
        house = family_with(code[:5] + (("drop",), ("push", 1), ("give",)), ((0, 2, "top", 2), (4, 5, "box", 5)))
        self.assertEqual(faults_of(house, "box", "test", ()), [(2, "top", 1, 1), (5, "red", 1, 1)])
        self.assertEqual(run(house, "box", "test", ()), ("gives", 1))

    def test_each_step_that_makes_a_fault(self):
        for steps in [(("none",), ("get", "box", "x")), (("none",), ("push", 1), ("put", "box", "x")),
                      (("none",), ("call", "box", "show")), (("new", "egg"), ("cast", "box")), (("none",), ("enter",)),
                      (("none",), ("leave",)), (("none",), ("throw",))]:
            house = family_with(steps + (("push", 1), ("give",)))
            self.assertEqual(faults_of(house, "box", "test", ()), [(len(steps), "top", 1, 0)])
            self.assertEqual(run(house, "box", "test", ()), ("throws", "top"))

    def deep(self, handlers):
        """A house in which low calls mid, and mid calls high, which throws; handlers for each of these."""
        rows = []
        for word, calls in [("low", "mid"), ("mid", "high")]:
            code = (("take", 0), ("call", "box", calls), ("give",), ("drop",), ("push", 7), ("give",))
            rows.append((word, (), "num", code, handlers.get(word, ())))
        high = (("new", "red"), ("throw",), ("drop",), ("push", 5), ("give",))
        rows.append(("high", (), "num", high, handlers.get("high", ())))
        return House((("box", "top", (), tuple(rows)), ("red", "box", (), ()), ("egg", "top", (), ())))

    def test_caught_in_frames_below(self):
        for handlers, behind, end in [
                ({}, 0, ("throws", "red")), ({"high": ((1, 2, "box", 2),)}, 3, ("gives", 5)),
                ({"mid": ((1, 2, "red", 3),)}, 2, ("gives", 7)), ({"low": ((0, 3, "top", 3),)}, 1, ("gives", 7)),
                ({"low": ((0, 3, "top", 3),), "mid": ((2, 3, "top", 3),), "high": ((0, 5, "egg", 2),)}, 1, ("gives", 7))]:
            house = self.deep(handlers)
            self.assertEqual(faults_of(house, "box", "low", ()), [(6, "red", 3, behind)])
            self.assertEqual(run(house, "box", "low", ()), end)

    def test_thrown_again(self):
        code = (("new", "red"), ("throw",), ("throw",), ("throw",))
        house = family_with(code, ((1, 2, "red", 2), (2, 3, "box", 3)))
        self.assertEqual(faults_of(house, "box", "test", ()), [(2, "red", 1, 1), (3, "red", 1, 1), (4, "red", 1, 0)])

    def throwing(self, seed):
        """A house of methods that call one another and throw much, with many handlers."""
        chance = random.Random(seed)
        words, rows = ["a", "b", "c", "d"], []
        for at, word in enumerate(words):
            steps = []
            for _ in range(3):
                part = chance.choice(["call", "call", "throw", "fault", "number"])
                if part == "call" and at < 3:
                    steps.extend([("take", 0), ("call", "box", chance.choice(words[at + 1:])), ("drop",)])
                elif part == "throw":
                    steps.extend([("new", chance.choice(["box", "red", "egg"])), ("throw",)])
                elif part == "fault":
                    steps.extend([("none",), ("get", "box", "x"), ("drop",)])
                else:
                    steps.append(("push", 1))
            steps.extend([("push", at), ("give",)])
            many = len(steps)
            handlers = [(begin, chance.randint(begin + 1, many), chance.choice(["top", "red", "box", "egg"]),
                         chance.randint(begin, many - 2)) for begin in
                        [chance.randint(0, many - 2) for _ in range(chance.choice([0, 1, 2]))]]
            rows.append((word, (), "num", tuple(steps), tuple(handlers)))
        return House((("box", "top", (("x", "num"),), tuple(rows)), ("red", "box", (), ()), ("egg", "top", (), ())))

    def test_made_runs_by_their_states(self):
        thrown = caught = 0
        for seed in range(150):
            house = self.throwing(seed)
            for name, _, _, methods in house.classes:
                for word in [method[0] for method in methods if method[1] == ()]:
                    try:
                        steps, made = count_steps(house, name, word, ()), things_of(house, name, word, ())
                    except TooLong:
                        self.raises(TooLong, faults_of, house, name, word, (), most=2000)
                        continue
                    told = faults_of(house, name, word, ())
                    thrown += len(told)
                    self.assertEqual(told, sorted(told))
                    for done, kind, ahead, behind in told:
                        self.assertIn(kind, made)
                        self.assertEqual(len(state_behind(house, name, word, (), done - 1)), ahead)
                        state = state_behind(house, name, word, (), done)
                        self.assertEqual(0 if state is None else len(state), behind)
                        if behind == 0:
                            self.assertEqual((run(house, name, word, ()), done), (("throws", kind), steps))
                        else:
                            caught += 1
                            self.assertEqual(made[state[-1][4][0][1]], kind)
                            self.assertEqual(len(state[-1][4]), 1)
                    if run(house, name, word, ())[0] == "throws":
                        self.assertEqual(told[-1][3], 0)
        self.assertGreater(caught, 20)
        self.assertGreater(thrown, 100)

    def test_returned_lists_are_new(self):
        house = family_with((("new", "egg"), ("throw",)))
        faults_of(house, "box", "test", ()).clear()
        self.assertEqual(len(faults_of(house, "box", "test", ())), 1)

    def test_errors_of_run(self):
        house = House((("box", "top", (), (tiny("show"),)),))
        self.raises(TooLong, faults_of, house, "box", "show", (), most=2000)
        self.strays_raise(NoHouse, lambda value: faults_of(value, "box", "show", ()), strays(STRAY[-1]) + [FAMILY])
        self.strays_raise(BadName, lambda value: faults_of(HOUSE, value, "show", ()), STRAY + ["gray"])
        self.strays_raise(BadWord, lambda value: faults_of(HOUSE, "box", value, ()), STRAY)
        self.strays_raise(BadIns, lambda value: faults_of(HOUSE, "box", "show", value), strays(()))
        self.raises(NotSeen, faults_of, HOUSE, "box", "roll", None)
        self.raises(BadName, faults_of, HOUSE, 1, 2, 3)
        self.raises(BadWord, faults_of, HOUSE, "box", 2, 3)


if __name__ == "__main__":
    unittest.main()
