"""Desks: points 1 and 55."""

import random
import unittest

from helpers import FAMILY, STRAY, Maker, Raising, family_with, methods_in, strays

from classhouse.desks import Desk
from classhouse.errors import BadIns, BadName, BadSpot, BadWord, NoHouse, NotSeen, TooLong
from classhouse.houses import House
from classhouse.runs import count_steps, prints
from classhouse.traces import state_behind, trace

CODE = (("take", 1), ("print",), ("push", 2), ("print",), ("push", 0), ("give",))
ENDLESS = (("push", 1), ("if", 0), ("go", 0))


def small_desk(code=CODE, ins=(5,)):
    house = House((("box", "top", (), (("show", ("num",) * len(ins), "num", code, ()),)),))
    return Desk(house, "box", "show", ins)


def calling(*steps):
    """A house whose method "test" has these steps; "deep" calls "say", which prints 1 and 2."""
    say = ("say", (), "num", (("push", 1), ("print",), ("push", 2), ("print",), ("push", 3), ("give",)), ())
    deep = ("deep", (), "num", (("take", 0), ("call", "box", "say"), ("give",)), ())
    fall = ("fall", (), "num", (("none",), ("throw",)), ())
    return House((("box", "top", (), (("test", (), "num", steps, ()), say, deep, fall)),))


def led(desk, moves):
    return [getattr(desk, move)() for move in moves.split()]


class DeskTest(unittest.TestCase, Raising):
    def test_example(self):
        desk = small_desk()
        self.assertEqual([desk.forth(), desk.forth(), desk.own_prints, len(desk), desk.go_to("box", 0, 5), len(desk),
                          desk.own_prints, desk.back(), len(desk)], [True, True, (5,), 2, True, 5, (5, 2), True, 4])

    def test_at_first(self):
        desk = small_desk()
        self.assertEqual([len(desk), desk.own_prints, desk.own_state],
                         [0, (), (("box", 0, 0, (("thing", 0), 5, "unset", "unset"), ()),)])
        self.assertIs(desk.back(), False)
        self.assertEqual([len(desk), desk.own_state[0][2]], [0, 0])

    def test_forth_to_the_end_and_back(self):
        desk = small_desk()
        states = [desk.own_state]
        for many in range(1, 7):
            self.assertIs(desk.forth(), True)
            self.assertEqual(len(desk), many)
            states.append(desk.own_state)
        self.assertEqual([desk.forth(), len(desk), desk.own_state, desk.own_prints], [False, 6, None, (5, 2)])
        self.assertEqual(states[:-1], trace(small_desk_house(), "box", "show", (5,), 9))
        for many in range(5, -1, -1):
            self.assertIs(desk.back(), True)
            self.assertEqual([len(desk), desk.own_state], [many, states[many]])
            self.assertEqual(desk.own_prints, (5, 2)[:(many >= 2) + (many >= 4)])
        self.assertIs(desk.back(), False)
        self.assertIs(desk.forth(), True)
        self.assertEqual(desk.own_state, states[1])

    def test_what_is_undone_is_done_anew(self):
        code = (("take", 0), ("push", 1), ("put", "box", "x"), ("new", "egg"), ("keep", 1), ("take", 0), ("enter",),
                ("take", 0), ("get", "box", "x"), ("print",), ("new", "egg"), ("drop",), ("push", 1), ("give",))
        house = family_with(code)
        desk = Desk(house, "box", "test", ())
        for _ in range(3):
            while desk.forth():
                pass
            self.assertEqual([len(desk), desk.own_prints], [14, (1,)])
            for many in range(13, 0, -1):
                desk.back()
                self.assertEqual(desk.own_state, state_behind(house, "box", "test", (), many))
            desk.back()
            # The field has not been put, and the next thing to be made is 1.
            self.assertEqual(led(desk, "forth forth back back"), [True] * 4)
        desk.go_to("box", 2, 4)
        self.assertEqual(desk.own_state[0][4], (("thing", 1),))

    def test_each_end(self):
        for code, many in [((("take", 0), ("throw",)), 2), ((("add",), ("give",)), 1), ((("none",), ("throw",)), 2)]:
            desk = small_desk(code)
            while desk.forth():
                pass
            self.assertEqual([len(desk), desk.own_state, desk.over(), desk.forth(), len(desk)],
                             [many, None, False, False, many])
            self.assertIs(desk.back(), True)
            self.assertEqual(desk.own_state[0][2], many - 1)

    def test_just_2000_steps(self):
        desk = small_desk(ENDLESS)
        self.assertTrue(all(desk.forth() for _ in range(2000)))
        state = desk.own_state
        self.assertEqual([desk.forth(), desk.over(), len(desk)], [False, False, 2000])
        self.assertEqual(desk.own_state, state)
        self.assertEqual(state[0][2], 0)
        self.assertEqual([desk.go_to("box", 0, 0), desk.go_to("box", 0, 1), desk.go_to("box", 0, 2), len(desk)],
                         [True, False, False, 2000])
        self.assertEqual([desk.back(), len(desk), desk.own_state[0][2]], [True, 1999, 1])
        self.assertEqual([desk.go_to("box", 0, 0), len(desk)], [True, 2000])
        self.assertTrue(all(desk.back() for _ in range(2000)))
        self.assertEqual([len(desk), desk.back()], [0, False])

    def test_len_is_an_integer(self):
        self.assertIs(type(len(small_desk())), int)
        for word in ("forth", "back", "go_to", "over", "copy", "__len__", "own_state", "own_prints"):
            self.assertIn(word, vars(Desk))
        for word in ("own_state", "own_prints"):
            with self.assertRaises(AttributeError):
                setattr(small_desk(), word, None)


def small_desk_house():
    return House((("box", "top", (), (("show", ("num",), "num", CODE, ()),)),))


class GoToTest(unittest.TestCase, Raising):
    def test_a_step_that_comes(self):
        desk = small_desk()
        self.assertEqual([desk.go_to("box", 0, 0), len(desk)], [True, 0])
        self.assertEqual([desk.go_to("box", 0, 3), len(desk), desk.own_state[0][2]], [True, 3, 3])
        self.assertEqual([desk.go_to("box", 0, 3), len(desk)], [True, 3])

    def test_a_step_that_does_not_come(self):
        desk = small_desk()
        desk.go_to("box", 0, 3)
        state = desk.own_state
        self.assertEqual([desk.go_to("box", 0, 2), len(desk), desk.own_prints], [False, 3, (5,)])
        self.assertEqual(desk.own_state, state)
        self.assertEqual([desk.back(), len(desk), desk.go_to("box", 0, 2), len(desk)], [True, 2, True, 2])

    def test_at_the_end(self):
        desk = small_desk()
        while desk.forth():
            pass
        # The step that ended the run comes next no more.
        self.assertEqual([desk.go_to("box", 0, 5), len(desk), desk.own_state], [False, 6, None])

    def test_steps_of_methods_called(self):
        house = calling(("take", 0), ("call", "box", "deep"), ("drop",), ("take", 0), ("call", "box", "say"), ("give",))
        desk = Desk(house, "box", "test", ())
        self.assertEqual([desk.go_to("box", 1, 2), len(desk), len(desk.own_state)], [True, 6, 3])
        # The call stands in the frames below, but comes next there no more.
        self.assertEqual([desk.go_to("box", 2, 1), desk.go_to("box", 0, 1), len(desk)], [False, False, 6])
        self.assertEqual([desk.go_to("box", 2, 2), len(desk), desk.own_state[-1][2]], [True, 10, 2])
        self.assertEqual([desk.go_to("box", 1, 2), len(desk.own_state), desk.own_prints], [True, 2, (1, 2, 1)])
        self.assertEqual([desk.go_to("box", 1, 2), desk.go_to("box", 3, 0), desk.go_to("box", 0, 5)], [True, False, True])
        self.assertEqual(desk.own_state[-1][4], (3,))

    def test_loops(self):
        desk = small_desk(ENDLESS)
        self.assertEqual([desk.go_to("box", 0, 1), len(desk), desk.go_to("box", 0, 0), len(desk),
                          desk.go_to("box", 0, 2), len(desk)], [True, 1, True, 2, False, 2])

    def test_wrong_spots(self):
        desk = Desk(House(FAMILY), "box", "hop", (1, None))
        desk.forth()
        state = desk.own_state
        for value in strays() + ["num", "gray", None]:
            self.raises(BadSpot, desk.go_to, value, 0, 0)
        for value in strays() + [2, -1, True, False, "0", None]:
            self.raises(BadSpot, desk.go_to, "box", value, 0)
            self.raises(BadSpot, desk.go_to, "box", 0, value)
        for spot in [("top", 0, 0), ("egg", 0, 0), ("red", 1, 0), ("blue", 0, 2), ("box", 2, 0)]:
            self.raises(BadSpot, desk.go_to, *spot)
        self.assertEqual([desk.own_state, len(desk), desk.go_to("blue", 0, 1), len(desk)], [state, 1, False, 1])
        self.assertIs(desk.go_to("box", 1, 1), True)


class OverTest(unittest.TestCase):
    def test_a_step_that_goes_into_none(self):
        desk = small_desk()
        self.assertEqual([desk.over(), len(desk), desk.over(), len(desk), desk.own_prints], [True, 1, True, 2, (5,)])

    def test_over_a_call(self):
        house = calling(("take", 0), ("call", "box", "deep"), ("take", 0), ("call", "box", "say"), ("add",), ("give",))
        desk = Desk(house, "box", "test", ())
        self.assertEqual([desk.over(), desk.over(), len(desk), desk.own_prints], [True, True, 11, (1, 2)])
        self.assertEqual(desk.own_state, (("box", 0, 2, (("thing", 0),) + ("unset",) * 3, (3,)),))
        self.assertEqual([desk.back(), len(desk), len(desk.own_state)], [True, 10, 2])
        self.assertEqual([desk.over(), len(desk), len(desk.own_state)], [True, 11, 1])
        self.assertEqual([desk.over(), desk.over(), desk.own_prints, desk.own_state[0][4]], [True, True, (1, 2, 1, 2), (3, 3)])

    def test_over_within_a_call(self):
        house = calling(("take", 0), ("call", "box", "deep"), ("give",))
        desk = Desk(house, "box", "test", ())
        led(desk, "forth forth forth")
        self.assertEqual([desk.over(), len(desk), len(desk.own_state), desk.own_prints], [True, 10, 2, (1, 2)])
        # A give leaves a frame, and goes into none.
        self.assertEqual([desk.over(), len(desk), len(desk.own_state)], [True, 11, 1])

    def test_over_a_call_that_throws(self):
        house = calling(("take", 0), ("call", "box", "fall"), ("push", 7), ("give",))
        desk = Desk(house, "box", "test", ())
        desk.forth()
        self.assertEqual([desk.over(), len(desk), desk.own_state, desk.over()], [True, 4, None, False])
        rows = house.classes[0][3]
        test = ("test", (), "num", (("take", 0), ("call", "box", "fall"), ("push", 7), ("give",)), ((1, 2, "top", 2),))
        desk = Desk(House((("box", "top", (), (test,) + rows[1:]),)), "box", "test", ())
        desk.forth()
        self.assertEqual([desk.over(), len(desk), desk.own_state[0][2], len(desk.own_state)], [True, 4, 2, 1])

    def test_over_a_call_caught_further_below(self):
        # The frame of the call goes, too: fewer frames are there then.
        test = ("test", (), "num", (("take", 0), ("call", "box", "deep"), ("drop",), ("push", 7), ("give",)),
                ((1, 2, "top", 2),))
        deep = ("deep", (), "num", (("take", 0), ("call", "box", "fall"), ("give",)), ())
        fall = ("fall", (), "num", (("none",), ("throw",)), ())
        desk = Desk(House((("box", "top", (), (test, deep, fall)),)), "box", "test", ())
        led(desk, "forth forth forth")
        self.assertEqual([len(desk.own_state), desk.over(), len(desk), len(desk.own_state), desk.own_state[0][2]],
                         [2, True, 6, 1, 2])

    def test_a_call_of_none(self):
        house = calling(("none",), ("call", "box", "say"), ("give",))
        desk = Desk(house, "box", "test", ())
        self.assertEqual([desk.over(), desk.over(), len(desk), desk.own_state], [True, True, 2, None])

    def test_a_call_in_which_the_run_ends(self):
        wrong = ("wrong", (), "num", (("push", 1), ("print",), ("add",), ("give",)), ())
        test = ("test", (), "num", (("take", 0), ("call", "box", "wrong"), ("give",)), ())
        desk = Desk(House((("box", "top", (), (test, wrong)),)), "box", "test", ())
        self.assertEqual([led(desk, "over over over"), len(desk), desk.own_state, desk.own_prints],
                         [[True, True, False], 5, None, (1,)])

    def test_a_call_without_end(self):
        for turn in [(("go", 0),), (("take", 0), ("call", "box", "turn"), ("give",))]:
            test = ("test", (), "num", (("take", 0), ("call", "box", "turn"), ("give",)), ())
            desk = Desk(House((("box", "top", (), (test, ("turn", (), "num", turn, ()))),)), "box", "test", ())
            self.assertEqual([led(desk, "over over over"), len(desk)], [[True, True, False], 2000])
            self.assertIsNotNone(desk.own_state)


class CopyTest(unittest.TestCase):
    def test_copies_go_on_by_themselves(self):
        desk = small_desk()
        led(desk, "forth forth forth")
        other = desk.copy()
        self.assertIsInstance(other, Desk)
        self.assertEqual([len(other), other.own_state, other.own_prints], [3, desk.own_state, (5,)])
        led(other, "forth forth forth")
        self.assertEqual([len(desk), desk.own_prints, len(other), other.own_prints, other.own_state],
                         [3, (5,), 6, (5, 2), None])
        led(desk, "back back")
        self.assertEqual([len(desk), len(other), desk.own_prints, other.own_prints], [1, 6, (), (5, 2)])
        led(other, "back back back back")
        self.assertEqual([len(desk), len(other), other.own_prints], [1, 2, (5,)])

    def test_copies_share_no_past(self):
        desk = small_desk()
        led(desk, "forth forth")
        other = desk.copy()
        self.assertEqual(led(other, "back back forth forth forth forth"), [True] * 6)
        self.assertEqual(led(desk, "back forth forth"), [True] * 3)
        self.assertEqual([desk.own_state[0][2], other.own_state[0][2], desk.own_prints, other.own_prints],
                         [3, 4, (5,), (5, 2)])

    def test_copies_of_ended_and_new_desks(self):
        desk = small_desk()
        other = desk.copy()
        while desk.forth():
            pass
        ended = desk.copy()
        self.assertEqual([len(other), len(ended), ended.own_state, ended.forth(), ended.back(), len(desk)],
                         [0, 6, None, False, True, 6])

    def test_by_chance(self):
        moved = 0
        for seed in range(120):
            house = Maker(seed).house(12)
            chance = random.Random(seed)
            for name, place in methods_in(house):
                word, kinds = [row[3][place][:2] for row in house.classes if row[0] == name][0]
                ins = tuple(2 if kind == "num" else None for kind in kinds)
                states = trace(house, name, word, ins, 200)
                desks = [(Desk(house, name, word, ins), [0])]
                for _ in range(25):
                    desk, done = chance.choice(desks)
                    self.move(house, chance, desks, desk, done, states)
                    moved += 1
                for desk, done in desks:
                    self.check_desk(desk, done[0], states)
        self.assertGreater(moved, 1000)

    def move(self, house, chance, desks, desk, done, states):
        """Leads a desk by chance, and the number of its steps along the states of the run."""
        move = chance.choice(["forth", "forth", "forth", "back", "over", "go_to", "copy"])
        if move == "copy":
            desks.append((desk.copy(), [done[0]]))
            return
        if done[0] > 150:
            move = "back"
        state = states[done[0]] if done[0] < len(states) else None
        if move == "forth":
            self.assertIs(desk.forth(), state is not None)
            done[0] += state is not None
        elif move == "back":
            self.assertIs(desk.back(), done[0] > 0)
            done[0] -= done[0] > 0
        elif move == "over" and state is not None:
            after = done[0] + 1
            while after < len(states) and len(states[after]) > len(state):
                after += 1
            if after <= 150:
                self.assertIs(desk.over(), True)
                done[0] = after
        elif move == "go_to":
            spot = chance.choice(states)[-1][:3]
            coming = [at for at in range(done[0], len(states)) if states[at][-1][:3] == spot]
            if len(states) < 200:
                self.assertIs(desk.go_to(*spot), bool(coming))
                done[0] = coming[0] if coming else done[0]

    def check_desk(self, desk, done, states):
        self.assertEqual(len(desk), done)
        if done < len(states):
            self.assertEqual(desk.own_state, states[done])
        else:
            self.assertIsNone(desk.own_state)

    def test_a_desk_prints_what_its_run_prints(self):
        for seed in range(60):
            house = Maker(seed).house(12)
            for name, place in methods_in(house):
                word, kinds = [row[3][place][:2] for row in house.classes if row[0] == name][0]
                ins = tuple(2 if kind == "num" else None for kind in kinds)
                try:
                    printed, many = prints(house, name, word, ins), count_steps(house, name, word, ins)
                except TooLong:
                    continue
                desk = Desk(house, name, word, ins)
                while desk.forth():
                    pass
                self.assertEqual([desk.own_prints, len(desk)], [printed, many])


class WrongTest(unittest.TestCase, Raising):
    def test_errors_of_run(self):
        house = House(FAMILY)
        for value in strays(STRAY[-1]) + [FAMILY]:
            self.raises(NoHouse, Desk, value, None, None, None)
        for value in strays() + ["num", "gray"]:
            self.raises(BadName, Desk, house, value, None, None)
        for value in [None, 1, "Show", "", "sevenly", ["show"], ("show",), True]:
            self.raises(BadWord, Desk, house, "box", value, None)
        for name, word in [("box", "roll"), ("egg", "show"), ("top", "show"), ("box", "x")]:
            self.raises(NotSeen, Desk, house, name, word, None)
        for value in strays() + [(1,), (None, None), (1, 1), (True, None), (16, None), (1, ("thing", 1)), [1, None]]:
            self.raises(BadIns, Desk, house, "box", "hop", value)

    def test_no_error_for_a_run_that_does_not_end(self):
        self.assertEqual(len(small_desk(ENDLESS)), 0)

    def test_desks_are_equal_to_nothing_else(self):
        for value in [None, 0, (), "box", House(FAMILY)]:
            self.assertFalse(small_desk() == value)


if __name__ == "__main__":
    unittest.main()
