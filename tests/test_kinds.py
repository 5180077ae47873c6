"""Kinds: points 1, 4 and 5."""

import unittest

from helpers import FAMILY, STRAY, Maker, Raising, strays

from classhouse.errors import BadKind, BadName, NoHouse
from classhouse.houses import House
from classhouse.kinds import common, downward, fits, joined, upward

HOUSE = House(FAMILY)
CLASSES = ["top", "box", "red", "blue", "pink", "egg"]
KINDS = ["unset", "odd", "num", "none", *CLASSES]


class ExamplesTest(unittest.TestCase):
    def test_classes(self):
        house = House((("box", "top", (), ()), ("red", "box", (), ()), ("blue", "box", (), ()), ("egg", "top", (), ())))
        self.assertEqual([upward(house, "red"), downward(house, "box"), common(house, "red", "blue"),
                          common(house, "red", "egg")],
                         [("red", "box", "top"), ("box", "red", "blue"), "box", "top"])

    def test_kinds(self):
        house = House((("box", "top", (), ()), ("red", "box", (), ()), ("egg", "top", (), ())))
        self.assertEqual([fits(house, "none", "red"), fits(house, "red", "box"), fits(house, "num", "top"),
                          joined(house, "red", "egg"), joined(house, "num", "red"), joined(house, "unset", "num"),
                          joined(house, "none", "box")],
                         [True, True, False, "top", "odd", "unset", "box"])


class ClassesTest(unittest.TestCase, Raising):
    def test_upward(self):
        self.assertEqual(upward(HOUSE, "pink"), ("pink", "red", "box", "top"))
        self.assertEqual(upward(HOUSE, "egg"), ("egg", "top"))
        self.assertEqual(upward(HOUSE, "top"), ("top",))

    def test_downward(self):
        self.assertEqual(downward(HOUSE, "top"), ("top", "box", "red", "blue", "pink", "egg"))
        self.assertEqual(downward(HOUSE, "box"), ("box", "red", "blue", "pink"))
        self.assertEqual(downward(HOUSE, "red"), ("red", "pink"))
        self.assertEqual(downward(HOUSE, "pink"), ("pink",))

    def test_common(self):
        self.assertEqual(common(HOUSE, "pink", "blue"), "box")
        self.assertEqual(common(HOUSE, "blue", "pink"), "box")
        self.assertEqual(common(HOUSE, "pink", "red"), "red")
        self.assertEqual(common(HOUSE, "red", "pink"), "red")
        self.assertEqual(common(HOUSE, "pink", "egg"), "top")
        self.assertEqual(common(HOUSE, "pink", "pink"), "pink")
        self.assertEqual(common(HOUSE, "top", "pink"), "top")
        self.assertEqual(common(HOUSE, "top", "top"), "top")

    def test_eight_classes_in_one_line(self):
        house = House(tuple((letter, upper, (), ()) for letter, upper in zip("abcdefgh", ["top", *"abcdefg"])))
        self.assertEqual(upward(house, "h"), (*"hgfedcba", "top"))
        self.assertEqual(downward(house, "a"), tuple("abcdefgh"))

    def test_bad_names(self):
        wrong = STRAY + ["num", "none", "odd", "unset", "gray", ("box",)]
        self.strays_raise(BadName, lambda value: upward(HOUSE, value), wrong)
        self.strays_raise(BadName, lambda value: downward(HOUSE, value), wrong)
        self.strays_raise(BadName, lambda value: common(HOUSE, value, "box"), wrong)
        self.strays_raise(BadName, lambda value: common(HOUSE, "box", value), wrong)

    def test_no_house(self):
        wrong = strays(STRAY[-1]) + [FAMILY, "box"]
        for function, args in [(upward, 1), (downward, 1), (common, 2)]:
            self.strays_raise(NoHouse, lambda value: function(value, *["box"] * args), wrong)
            self.raises(NoHouse, function, 5, *[6] * args)


class KindsTest(unittest.TestCase, Raising):
    def test_what_fits(self):
        ups = {name: upward(HOUSE, name) for name in CLASSES}
        for one in KINDS:
            for other in KINDS:
                told = (one == other or other == "unset" or (other == "odd" and one != "unset")
                        or (one == "none" and other in CLASSES) or (one in CLASSES and other in ups[one]))
                self.assertIs(fits(HOUSE, one, other), told, (one, other))

    def test_some_that_do_not_fit(self):
        for one, other in [("unset", "odd"), ("unset", "top"), ("odd", "num"), ("num", "none"), ("none", "num"),
                           ("top", "none"), ("top", "box"), ("box", "red"), ("egg", "box"), ("num", "box"),
                           ("odd", "top"), ("top", "num")]:
            self.assertIs(fits(HOUSE, one, other), False, (one, other))

    def test_joined_is_the_least_that_both_fit(self):
        houses = [HOUSE] + [Maker(seed).house(3) for seed in range(8)]
        for house in houses:
            kinds = KINDS[:5] + [row[0] for row in house.classes]
            for one in kinds:
                for other in kinds:
                    both = [kind for kind in kinds if fits(house, one, kind) and fits(house, other, kind)]
                    least = [kind for kind in both if all(fits(house, kind, wide) for wide in both)]
                    self.assertEqual([joined(house, one, other)], least)

    def test_some_that_are_joined(self):
        for one, other, kind in [("red", "blue", "box"), ("red", "egg", "top"), ("none", "none", "none"),
                                 ("none", "num", "odd"), ("num", "top", "odd"), ("odd", "none", "odd"),
                                 ("unset", "odd", "unset"), ("num", "num", "num"), ("pink", "red", "red")]:
            self.assertEqual(joined(HOUSE, one, other), kind)
            self.assertEqual(joined(HOUSE, other, one), kind)

    def test_bad_kinds(self):
        wrong = STRAY + ["gray", "unsets", ("num",), ["num"]]
        for function in (fits, joined):
            self.strays_raise(BadKind, lambda value: function(HOUSE, value, "num"), wrong)
            self.strays_raise(BadKind, lambda value: function(HOUSE, "num", value), wrong)
            self.strays_raise(NoHouse, lambda value: function(value, "num", "num"), strays(STRAY[-1]) + [FAMILY])
            self.raises(NoHouse, function, None, "gray", "gray")

    def test_equal_houses_have_equal_answers(self):
        again = House(eval(repr(FAMILY)))
        for one in CLASSES:
            self.assertEqual(downward(HOUSE, one), downward(again, one))


if __name__ == "__main__":
    unittest.main()
