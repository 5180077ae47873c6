"""Two hands: points 1 and 40."""

import itertools
import random
import unittest

from helpers import NO_TUPLES, STRAY, Raising, strays

from classhouse.errors import BadHands, BadTurns
from classhouse.hands import count_turns, crossing, stuck_turns, waits


def acts(text):
    """A hand, told as "+0 -0"."""
    return tuple(("enter" if word[0] == "+" else "leave", int(word[1])) for word in text.split())


def pair(one, other):
    return acts(one), acts(other)


CROSS = pair("+0 +1", "+1 +0")


def done_and_held(hands, turns):
    """What each hand has done and holds behind turns, None if they are none; by each act in turn."""
    done, held = [0, 0], ([0] * 4, [0] * 4)
    for hand in turns:
        if done[hand] == len(hands[hand]):
            return None
        word, thing = hands[hand][done[hand]]
        if word == "enter" and held[1 - hand][thing] or word == "leave" and not held[hand][thing]:
            return None
        held[hand][thing] += 1 if word == "enter" else -1
        done[hand] += 1
    return tuple(done), tuple(tuple(row) for row in held)


def is_done(hands, turns):
    return done_and_held(hands, turns)[0] == (len(hands[0]), len(hands[1]))


def all_turns(hands):
    """All turns, the shorter first, those of one length ascending."""
    found, layer = [()], [()]
    while layer:
        layer = [turns + (hand,) for turns in layer for hand in (0, 1)
                 if done_and_held(hands, turns + (hand,)) is not None]
        found.extend(layer)
    return found


def stuck_plainly(hands, found):
    known = set(found)
    for turns in found:
        if not is_done(hands, turns) and all(turns + (hand,) not in known for hand in (0, 1)):
            return turns
    return None


def crossed_pairs(hand):
    """The pairs of a thing held and another one entered that is not held, by the hand alone."""
    found = set()
    for at, (word, thing) in enumerate(hand):
        held = [0] * 4
        for before, other in hand[:at]:
            held[other] = held[other] + 1 if before == "enter" else max(0, held[other] - 1)
        if word == "enter" and not held[thing]:
            found |= {(one, thing) for one in range(4) if held[one]}
    return found


def crossing_plainly(hands):
    one, other = (crossed_pairs(hand) for hand in hands)
    return min((row for row in one if row[::-1] in other), default=None)


def some_hands(seed):
    """Hands by chance, every other time such as leave just what they hold, and hold nothing at the end."""
    chance = random.Random(seed)
    hands = []
    for _ in range(2):
        hand, held = [], []
        for _ in range(chance.randint(0, 6)):
            things = held if seed % 2 == 0 and (len(held) > 2 or held and chance.random() < 0.4) else [0, 1, 2]
            word = "leave" if things == held or seed % 2 and chance.random() < 0.3 else "enter"
            hand.append((word, chance.choice(things)))
            if word == "enter":
                held = held + [hand[-1][1]]
            elif hand[-1][1] in held:
                held.remove(hand[-1][1])
        if seed % 2 == 0:
            hand.extend(("leave", thing) for thing in held)
        hands.append(tuple(hand[:8]))
    return tuple(hands)


class TurnsTest(unittest.TestCase, Raising):
    def test_example(self):
        self.assertEqual([count_turns(CROSS), stuck_turns(CROSS), crossing(CROSS), waits(CROSS, (0, 1)),
                          waits(CROSS, (0,))],
                         [0, (0, 0), (0, 1), (("held", 1), ("held", 0)), (None, None)])
        self.assertEqual([count_turns(((("enter", 0), ("leave", 0)), (("enter", 0), ("leave", 0)))),
                          crossing(((("enter", 0),), (("enter", 0),))), waits(((("leave", 2),), ()), ())],
                         [2, None, (("not", 2), None)])

    def test_no_acts(self):
        self.assertEqual([count_turns(((), ())), stuck_turns(((), ())), crossing(((), ())), waits(((), ()), ())],
                         [1, None, None, (None, None)])
        self.assertEqual(count_turns(pair("+0", "")), 1)

    def test_eight_acts(self):
        free = pair("+0 -0 +0 -0 +0 -0 +0 -0", "+1 -1 +1 -1 +1 -1 +1 -1")
        self.assertEqual(count_turns(free), 12870)
        self.assertEqual(stuck_turns(free), None)
        self.assertEqual(count_turns((free[0], free[0])), 70)
        self.assertEqual(waits(free, (0,) * 8 + (1,) * 8), (None, None))

    def test_hands_that_never_get_stuck(self):
        self.assertEqual(stuck_turns(pair("+0 +1 -1 -0", "+0 +1 -0 -1")), None)
        self.assertEqual(stuck_turns(pair("+3", "+2 -2")), None)

    def test_entering_more_than_once(self):
        hands = pair("+2 +2 -2 -2", "+2")
        self.assertEqual(waits(hands, (0, 0, 0)), (None, ("held", 2)))
        self.assertEqual(waits(hands, (0, 0, 0, 0)), (None, None))
        self.assertEqual(count_turns(hands), 1)
        self.assertEqual(stuck_turns(hands), (1,))

    def test_leaving_what_is_not_held(self):
        # What the other hand holds is not held by this one.
        hands = pair("-1 +1", "+1 -1")
        self.assertEqual(waits(hands, ()), (("not", 1), None))
        self.assertEqual(waits(hands, (1,)), (("not", 1), None))
        self.assertEqual(waits(hands, (1, 1)), (("not", 1), None))
        self.assertEqual([count_turns(hands), stuck_turns(hands)], [0, (1, 1)])
        self.assertEqual(stuck_turns(pair("-0", "-0")), ())

    def test_holding_at_the_end(self):
        self.assertEqual(stuck_turns(pair("+0", "+0")), (0,))
        self.assertEqual(waits(pair("+0", "+0"), (1,)), (("held", 0), None))

    def test_least_of_the_shortest_stuck_turns(self):
        # (0, 1) and (1, 1) get stuck as well, and as shortly.
        self.assertEqual(stuck_turns(pair("+0 +1 -2", "+1 +0 -2")), (0, 0))
        self.assertEqual(stuck_turns(pair("+0 -0 +1 +2", "+2 +1")), (0, 0, 0, 0))
        self.assertEqual(stuck_turns(pair("+0 +1 +2 -2 -1 -0", "+2 +0")), (1, 1))
        self.assertEqual(stuck_turns(pair("+0 +1 +2 -2 -1 -0", "+2 +0 -0")), (0, 0, 1))

    def test_by_all_turns(self):
        stuck = 0
        for seed in range(150):
            hands = some_hands(seed)
            found = all_turns(hands)
            self.assertEqual(count_turns(hands), sum(is_done(hands, turns) for turns in found), hands)
            self.assertEqual(stuck_turns(hands), stuck_plainly(hands, found), hands)
            stuck += stuck_turns(hands) is not None
            for turns in found[::11]:
                self.check_waits(hands, turns)
        self.assertTrue(15 < stuck < 135, stuck)

    def check_waits(self, hands, turns):
        done, held = done_and_held(hands, turns)
        for hand, wait in enumerate(waits(hands, turns)):
            can = done_and_held(hands, turns + (hand,)) is not None
            self.assertEqual(wait is None, can or done[hand] == len(hands[hand]))
            if wait is not None:
                word, thing = hands[hand][done[hand]]
                self.assertEqual(wait, ("held" if word == "enter" else "not", thing))
                self.assertEqual(word == "enter", held[1 - hand][thing] > 0 and word == "enter")

    def test_wrong_turns(self):
        for value in strays(*[value for value in STRAY if isinstance(value, tuple)]):
            self.raises(BadTurns, waits, CROSS, value, index=None)
        for value in strays():
            self.raises(BadTurns, waits, CROSS, (0, value), index=1)
        for bad in (2, -1, False, True, "0", (0,), None):
            self.raises(BadTurns, waits, CROSS, (bad,), index=0)
        self.raises(BadTurns, waits, CROSS, (0, 1, 1), index=2)
        self.raises(BadTurns, waits, CROSS, (0, 0, 0), index=2)
        self.raises(BadTurns, waits, CROSS, (0, 0, 1, 2), index=2)
        self.raises(BadTurns, waits, ((), ()), (0,), index=0)
        self.raises(BadTurns, waits, CROSS, [0], index=None)
        self.raises(BadHands, waits, (), [0], hand=None, place=None)


class CrossingTest(unittest.TestCase):
    def test_one_way_and_both(self):
        self.assertEqual(crossing(pair("+0 +1", "+0 +1")), None)
        self.assertEqual(crossing(pair("+0 +1", "+1 +0")), (0, 1))
        self.assertEqual(crossing(pair("+1 +0", "+0 +1")), (1, 0))

    def test_the_least_of_several(self):
        self.assertEqual(crossing(pair("+3 +2 +1", "+1 +2 +3")), (2, 1))
        self.assertEqual(crossing(pair("+3 +2 -3 -2 +1 +0", "+2 +3 -2 -3 +0 +1")), (1, 0))

    def test_only_at_the_same_time(self):
        self.assertEqual(crossing(pair("+0 -0 +1", "+1 +0")), None)
        self.assertEqual(crossing(pair("+0 +0 -0 +1", "+1 +0")), (0, 1))

    def test_what_is_held_is_not_entered_anew(self):
        # The first hand holds 1 already when it enters it while it holds 0.
        self.assertEqual(crossing(pair("+1 +0 +1", "+1 +0")), None)
        self.assertEqual(crossing(pair("+1 +0 -1 +1", "+1 +0")), (0, 1))
        self.assertEqual(crossing(pair("+0 +1", "+0 +1 +0")), None)

    def test_leaving_what_is_not_held_changes_nothing(self):
        self.assertEqual(crossing(pair("-0 +0 +1", "+1 -2 +0")), (0, 1))
        self.assertEqual(crossing(pair("-0 -0 +0 -1 +1", "+1 +0")), (0, 1))

    def test_by_each_act(self):
        crossed = 0
        for seed in range(400):
            hands = some_hands(seed)
            self.assertEqual(crossing(hands), crossing_plainly(hands), hands)
            crossed += crossing(hands) is not None
        self.assertTrue(20 < crossed < 380, crossed)

    def test_without_a_crossing_clean_hands_are_never_stuck(self):
        held = 0
        for seed in range(0, 1200, 2):
            hands = some_hands(seed)
            clean = all(sum(row) == 0 and all(done_and_held((hand, ()), (0,) * at) for at in range(len(hand) + 1))
                        for hand in hands for row in [[1 if word == "enter" else -1 for word, _ in hand]])
            if clean and crossing(hands) is None:
                held += 1
                self.assertEqual(stuck_turns(hands), None, hands)
        self.assertGreater(held, 100)


class BadHandsTest(unittest.TestCase, Raising):
    def each(self, hands, hand, place):
        for function in (count_turns, stuck_turns, crossing, lambda value: waits(value, ())):
            self.raises(BadHands, function, hands, hand=hand, place=place)

    def test_no_pair(self):
        for value in NO_TUPLES + [(), ((),), ((), (), ()), [(), ()]]:
            self.each(value, None, None)

    def test_no_hand(self):
        for value in NO_TUPLES + [(("enter", 0),) * 9, [("enter", 0)]]:
            self.each((value, ()), 0, None)
            self.each((acts("+0"), value), 1, None)
        self.assertEqual(count_turns((acts("+0") * 8, ())), 1)

    def test_no_act(self):
        wrong = strays() + [("enter",), ("enter", 4), ("enter", -1), ("enter", True), ("enter", "0"), ("enter", 0, 0),
                            ["enter", 0], ("hold", 0), (0, "enter"), ("leave", None), ("leave", (0,)), (["leave"], 0)]
        for value in wrong:
            self.each(((value,), ()), 0, 0)
            self.each((acts("+0"), acts("-0 +1") + (value,)), 1, 2)

    def test_the_first_of_several(self):
        self.each(((("enter", 9),), None), 0, 0)
        self.each((acts("+0") + (None, None), (None,)), 0, 1)
        self.each((None, ((),)), 0, None)
        self.each((acts("+0"), ((), None)), 1, 0)

    def test_arguments_stay(self):
        for length in range(3):
            for turns in itertools.product((0, 1), repeat=length):
                hands = pair("+0 +1", "+2 -2")
                self.assertEqual(waits(hands, turns), waits(pair("+0 +1", "+2 -2"), turns))
                self.assertEqual(hands, pair("+0 +1", "+2 -2"))


if __name__ == "__main__":
    unittest.main()
