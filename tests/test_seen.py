"""What is seen: points 1, 6 and 7."""

import unittest

from helpers import FAMILY, STRAY, Maker, Raising, strays

from classhouse.errors import BadName, BadWord, NoHouse
from classhouse.houses import House
from classhouse.kinds import upward
from classhouse.seen import fields_of, method_of, methods_of, overrides

HOUSE = House(FAMILY)
NO_WORDS = STRAY + ["abcdefg", "A", "x ", 5, ("show",)]


class SeenTest(unittest.TestCase, Raising):
    def test_example(self):
        show = ("show", (), "num", (("push", 1), ("give",)), ())
        house = House((("box", "top", (("x", "num"),), (show,)), ("red", "box", (("y", "box"),), (show,)),
                       ("blue", "box", (), ())))
        self.assertEqual([fields_of(house, "red"), method_of(house, "blue", "show"), methods_of(house, "red"),
                          method_of(house, "top", "show"), overrides(house)],
                         [(("x", "num"), ("y", "box")), ("box", 0), (("show", "red"),), None,
                          [("red", "show", "box")]])

    def test_fields_of_upper_classes_come_ahead(self):
        self.assertEqual(fields_of(HOUSE, "pink"), (("x", "num"), ("y", "box"), ("z", "top"), ("w", "egg")))
        self.assertEqual(fields_of(HOUSE, "blue"), (("x", "num"), ("y", "box"), ("z", "top")))
        self.assertEqual(fields_of(HOUSE, "egg"), (("x", "egg"),))
        self.assertEqual(fields_of(HOUSE, "top"), ())

    def test_nearest_methods(self):
        self.assertEqual(method_of(HOUSE, "pink", "show"), ("red", 0))
        self.assertEqual(method_of(HOUSE, "pink", "hop"), ("pink", 0))
        self.assertEqual(method_of(HOUSE, "red", "hop"), ("box", 1))
        self.assertEqual(method_of(HOUSE, "blue", "roll"), ("blue", 0))
        self.assertIsNone(method_of(HOUSE, "box", "roll"))
        self.assertIsNone(method_of(HOUSE, "pink", "roll"))
        self.assertIsNone(method_of(HOUSE, "egg", "show"))
        self.assertIsNone(method_of(HOUSE, "pink", "top"))

    def test_methods_of(self):
        self.assertEqual(methods_of(HOUSE, "pink"), (("hop", "pink"), ("show", "red")))
        self.assertEqual(methods_of(HOUSE, "blue"), (("hop", "box"), ("roll", "blue"), ("show", "box")))
        self.assertEqual(methods_of(HOUSE, "egg"), ())
        self.assertEqual(methods_of(HOUSE, "top"), ())

    def test_overrides(self):
        self.assertEqual(overrides(HOUSE), [("red", "show", "box"), ("pink", "hop", "box")])
        self.assertEqual(overrides(House((("a", "top", (), ()),))), [])
        p = ("p", (), "num", (("go", 0),), ())
        q = ("q", (), "num", (("go", 0),), ())
        house = House((("a", "top", (), (p, q)), ("b", "a", (), (q, p)), ("c", "top", (), (p,)), ("d", "b", (), (p,))))
        self.assertEqual(overrides(house), [("b", "q", "a"), ("b", "p", "a"), ("d", "p", "b")])

    def test_returned_lists_are_new(self):
        found = overrides(HOUSE)
        found.clear()
        self.assertEqual(len(overrides(HOUSE)), 2)

    def test_what_is_seen_hangs_together(self):
        for seed in range(12):
            house = Maker(seed).house(3)
            for name in [row[0] for row in house.classes]:
                for word, owner in methods_of(house, name):
                    self.assertEqual(method_of(house, name, word)[0], owner)
                    self.assertIn(owner, upward(house, name))
                    for below in [row[0] for row in house.classes if name in upward(house, row[0])]:
                        self.assertIsNotNone(method_of(house, below, word))

    def test_bad_names_and_words(self):
        for function, more in [(fields_of, ()), (methods_of, ()), (method_of, ("show",))]:
            self.strays_raise(BadName, lambda value: function(HOUSE, value, *more), STRAY + ["num", "gray"])
            self.strays_raise(NoHouse, lambda value: function(value, "box", *more), strays(STRAY[-1]) + [FAMILY])
        self.strays_raise(BadWord, lambda value: method_of(HOUSE, "box", value), NO_WORDS)
        self.strays_raise(BadWord, lambda value: method_of(HOUSE, "top", value), NO_WORDS)
        self.strays_raise(NoHouse, overrides, strays(STRAY[-1]) + [FAMILY])

    def test_the_first_argument_is_told(self):
        self.raises(NoHouse, method_of, 1, 2, 3)
        self.raises(BadName, method_of, HOUSE, 2, 3)


if __name__ == "__main__":
    unittest.main()
