"""Choices: points 1, 28 and 29."""

import itertools
import random
import unittest

from helpers import FAMILY, NO_TUPLES, STRAY, Maker, Raising, strays

from classhouse.calls import choice_paper, first_double, nearest_taker, shows_choice, takers
from classhouse.errors import BadChoice, BadKinds, NoHouse
from classhouse.houses import House
from classhouse.kinds import fits

HOUSE = House(FAMILY)
SMALL = House((("box", "top", (), ()), ("red", "box", (), ())))
CHOICE = (("box", "red"), ("red", "box"), ("box", "box"))


def plain_takes(house, option, kinds):
    return len(option) == len(kinds) and all(fits(house, kind, wanted) for kind, wanted in zip(kinds, option))


def plain_nearer(house, one, other):
    return one != other and plain_takes(house, other, one)


def plain_papers(house, choice, kinds):
    """All values that tell what becomes of kinds in, the one that choice_paper tells first."""
    found = [index for index, option in enumerate(choice) if plain_takes(house, option, kinds)]
    if not found:
        return [("none",)]
    best = [index for index in found
            if all(plain_nearer(house, choice[index], choice[other]) for other in found if other != index)]
    pairs = []
    for one, other in itertools.combinations(found, 2):
        two = (choice[one], choice[other])
        if plain_nearer(house, *two) or plain_nearer(house, *two[::-1]):
            continue
        if not any(plain_nearer(house, choice[third], two[0]) and plain_nearer(house, choice[third], two[1])
                   for third in found):
            pairs.append(("two", one, other))
    # Just one of the three papers is there.
    assert len(best) <= 1 and bool(best) != bool(pairs)
    return [("one", best[0])] if best else pairs


def any_choice(chance, house, most):
    kinds = ["num", "top", "top"] + [row[0] for row in house.classes] * 2
    options = []
    while len(options) < most:
        size = chance.choice([0, 1, 1, 2, 2, 2, 3, 3])
        option = tuple(chance.choice(kinds) for _ in range(size))
        if option not in options or chance.random() < 0.1:
            options.append(option)
    return tuple(dict.fromkeys(options))


class CallsTest(unittest.TestCase, Raising):
    def test_example(self):
        self.assertEqual([takers(SMALL, CHOICE, ("red", "red")), choice_paper(SMALL, CHOICE, ("red", "red")),
                          nearest_taker(SMALL, CHOICE, ("red", "box")), choice_paper(SMALL, CHOICE, ("num",))],
                         [[0, 1, 2], ("two", 0, 1), 1, ("none",)])
        self.assertEqual([first_double(SMALL, CHOICE), first_double(SMALL, CHOICE + (("red", "red"),)),
                          shows_choice(SMALL, CHOICE, ("box", "box"), ("one", 2))], [("none", "none"), None, True])

    def test_one_option(self):
        for kinds, found in [(("pink",), [0]), (("none",), [0]), (("red",), [0]), (("box",), []), (("top",), []),
                             (("num",), []), ((), []), (("pink", "pink"), [])]:
            self.assertEqual(takers(HOUSE, (("red",),), kinds), found)
            self.assertEqual(nearest_taker(HOUSE, (("red",),), kinds), 0 if found else None)
            self.assertEqual(choice_paper(HOUSE, (("red",),), kinds), ("one", 0) if found else ("none",))

    def test_no_kinds_at_all(self):
        choice = (("num",), (), ("num", "num"))
        self.assertEqual(takers(HOUSE, choice, ()), [1])
        self.assertEqual(choice_paper(HOUSE, choice, ()), ("one", 1))
        self.assertEqual(choice_paper(HOUSE, (("num",),), ()), ("none",))

    def test_numbers_and_none(self):
        choice = (("num", "box"), ("num", "top"), ("top", "num"))
        self.assertEqual(takers(HOUSE, choice, ("num", "none")), [0, 1])
        self.assertEqual(nearest_taker(HOUSE, choice, ("num", "none")), 0)
        self.assertEqual(takers(HOUSE, choice, ("none", "num")), [2])
        self.assertEqual(takers(HOUSE, choice, ("num", "num")), [])
        self.assertEqual(takers(HOUSE, (("num",), ("top",), ("egg",)), ("none",)), [1, 2])

    def test_the_nearest_of_eight(self):
        choice = (("top",), ("box",), ("pink",), ("red",), ("egg",), ("num",), ("blue",), ())
        self.assertEqual(takers(HOUSE, choice, ("pink",)), [0, 1, 2, 3])
        self.assertEqual(nearest_taker(HOUSE, choice, ("pink",)), 2)
        self.assertEqual(nearest_taker(HOUSE, choice, ("red",)), 3)
        self.assertEqual(nearest_taker(HOUSE, choice, ("top",)), 0)
        self.assertEqual(takers(HOUSE, choice, ("none",)), [0, 1, 2, 3, 4, 6])
        self.assertEqual(choice_paper(HOUSE, choice, ("none",)), ("two", 1, 4))
        self.assertTrue(shows_choice(HOUSE, choice, ("none",), ("two", 2, 6)))
        self.assertFalse(shows_choice(HOUSE, choice, ("none",), ("two", 1, 6)))
        self.assertIsNone(nearest_taker(HOUSE, choice, ("none",)))

    def test_the_least_pair(self):
        choice = (("top", "top", "top"), ("red", "box", "box"), ("box", "red", "box"), ("box", "box", "red"))
        kinds = ("red", "red", "red")
        self.assertEqual(choice_paper(HOUSE, choice, kinds), ("two", 1, 2))
        for one, other in itertools.combinations(range(4), 2):
            self.assertEqual(shows_choice(HOUSE, choice, kinds, ("two", one, other)), one > 0)
            self.assertFalse(shows_choice(HOUSE, choice, kinds, ("two", other, one)))
        joined = choice + (("red", "red", "box"),)
        self.assertEqual(choice_paper(HOUSE, joined, kinds), ("two", 1, 3))
        self.assertFalse(shows_choice(HOUSE, joined, kinds, ("two", 1, 2)))
        self.assertFalse(shows_choice(HOUSE, joined, kinds, ("two", 1, 4)))
        self.assertTrue(shows_choice(HOUSE, joined, kinds, ("two", 3, 4)))

    def test_made_choices_by_another_way(self):
        told = set()
        for seed in range(60):
            house = Maker(seed).house(3)
            chance = random.Random(seed)
            for _ in range(4):
                choice = any_choice(chance, house, chance.randint(1, 8))
                names = ["num", "none", "top"] + [row[0] for row in house.classes]
                doubles = []
                for kinds in [row for size in range(4) for row in itertools.product(sorted(names), repeat=size)]:
                    papers = plain_papers(house, choice, kinds)
                    self.assertEqual(choice_paper(house, choice, kinds), papers[0])
                    told.add(papers[0][0])
                    if papers[0][0] == "two" and not doubles:
                        doubles.append(kinds)
                    if chance.random() < 0.1:
                        self.compare(house, choice, kinds, papers)
                self.assertEqual(first_double(house, choice), doubles[0] if doubles else None)
        self.assertEqual(told, {"one", "none", "two"})

    def compare(self, house, choice, kinds, papers):
        many = range(len(choice))
        found = [index for index in many if plain_takes(house, choice[index], kinds)]
        self.assertEqual(takers(house, choice, kinds), found)
        self.assertEqual(nearest_taker(house, choice, kinds), papers[0][1] if papers[0][0] == "one" else None)
        for value in [("none",), *[("one", index) for index in many],
                      *[("two", one, other) for one in many for other in many]]:
            self.assertEqual(shows_choice(house, choice, kinds, value), value in papers)

    def test_first_double(self):
        self.assertIsNone(first_double(HOUSE, (("box",), ("red",), ("num",))))
        self.assertEqual(first_double(HOUSE, (("red",), ("blue",), ("egg", "egg"))), ("none",))
        self.assertEqual(first_double(HOUSE, (("red", "box"), ("box", "red"))), ("none", "none"))
        self.assertEqual(first_double(HOUSE, (("num", "red", "top"), ("num", "top", "red"))), ("num", "none", "none"))
        closed = (("red", "box"), ("box", "red"), ("red", "red"))
        self.assertIsNone(first_double(HOUSE, closed))
        self.assertEqual(first_double(HOUSE, closed + (("egg", "egg"),)), ("none", "none"))
        self.assertEqual(first_double(SMALL, (("red", "top"), ("top", "red"), ("box", "box"))), ("box", "none"))

    def test_the_least_kinds_are_told_even_if_they_stand_behind_others(self):
        tall = House((("a", "top", (), ()), ("b", "top", (), ())))
        self.assertEqual(first_double(tall, (("a", "top"), ("top", "b"))), ("a", "b"))
        self.assertEqual(first_double(tall, (("a", "top"), ("top", "b"), ("a", "b"))), None)

    def test_values_of_every_kind(self):
        for kinds in [("red", "red"), ("red", "box"), ("num",)]:
            for value in STRAY:
                self.assertIs(shows_choice(SMALL, CHOICE, kinds, value), False)
        for value in [("one", True), ("one", 1.0), ["one", 1], ("one",), ("one", 1, 1), ("one", None), ("One", 1)]:
            self.assertIs(shows_choice(SMALL, CHOICE, ("red", "box"), value), False)
        self.assertIs(shows_choice(SMALL, CHOICE, ("red", "box"), ("one", 1)), True)
        for value in [("two", False, True), ("two", 0, True), ["two", 0, 1], ("two", 0), ("two", 0, 1, 2), ("two", 0, 3),
                      ("two", -3, 1), ("two", 1, 0), ("two", 0, 0), ("two", [0], 1), ("two", 0, None), (["two"], 0, 1)]:
            self.assertIs(shows_choice(SMALL, CHOICE, ("red", "red"), value), False)
        self.assertIs(shows_choice(SMALL, CHOICE, ("red", "red"), ("two", 0, 1)), True)
        for value in [("none", None), ["none"], "none", ()]:
            self.assertIs(shows_choice(SMALL, CHOICE, ("num",), value), False)
        self.assertIs(shows_choice(SMALL, CHOICE, ("num",), ("none",)), True)

    def test_returned_lists_are_new(self):
        takers(SMALL, CHOICE, ("red", "red")).clear()
        self.assertEqual(takers(SMALL, CHOICE, ("red", "red")), [0, 1, 2])

    def each(self, house, choice, kinds):
        return [lambda: takers(house, choice, kinds), lambda: nearest_taker(house, choice, kinds),
                lambda: choice_paper(house, choice, kinds), lambda: shows_choice(house, choice, kinds, None)]

    def test_wrong_choices(self):
        nine = tuple(("num",) * many + ("top",) * more for many in range(4) for more in range(4 - many))[:9]
        self.assertEqual(len(set(nine)), 9)
        for value in NO_TUPLES + [(), nine, [("num",)]]:
            self.raises(BadChoice, first_double, HOUSE, value, index=None)
            for function in self.each(HOUSE, value, None):
                self.raises(BadChoice, function, index=None)
        self.assertEqual(takers(HOUSE, nine[:8], ("num",)), [4])
        wrong = [("none",), ("num",) * 4, ["num"], "num", ("gray",), ("num", None), ("unset",), ("odd",), ("num", True),
                 (("num",),), ("box", ["red"]), ("top",)]
        for value in wrong + strays(()):
            choice = (("top",), value, None)
            self.raises(BadChoice, first_double, HOUSE, choice, index=1)
            for function in self.each(HOUSE, choice, None):
                self.raises(BadChoice, function, index=1)
        self.raises(BadChoice, first_double, HOUSE, ((), ("num",), ("top",), ("num",)), index=3)

    def test_wrong_kinds(self):
        wrong = [("num",) * 4, ["num"], "num", ("gray",), ("num", None), ("unset",), ("odd",), ("num", True), (("num",),),
                 ("num", ["num"])]
        for value in wrong + strays(()):
            for function in self.each(HOUSE, (("num",),), value):
                self.raises(BadKinds, function)

    def test_the_first_argument_is_told(self):
        for value in strays(STRAY[-1]) + [FAMILY]:
            self.raises(NoHouse, first_double, value, (("num",),))
            for function in self.each(value, (("num",),), ("num",)) + self.each(value, None, None):
                self.raises(NoHouse, function)


if __name__ == "__main__":
    unittest.main()
