"""Rows of methods: points 1 and 27."""

import unittest

from helpers import FAMILY, STRAY, Maker, Raising, strays, tiny, uppers

from classhouse.errors import BadName, BadSlot, BadWord, NoHouse
from classhouse.houses import House
from classhouse.rowsof import at_slot, method_row, slot_of
from classhouse.seen import method_of, methods_of

HOUSE = House(FAMILY)


def plain_row(house, name):
    """method_row, told as the document tells it."""
    if name == "top":
        return ()
    _, upper, _, methods = [row for row in house.classes if row[0] == name][0]
    words = [method[0] for method in methods]
    above = plain_row(house, upper)
    row = [(word, name if word in words else owner) for word, owner in above]
    return tuple(row + [(word, name) for word in words if word not in dict(above)])


class RowsOfTest(unittest.TestCase, Raising):
    def test_example(self):
        show, hide = tiny("show"), tiny("hide")
        house = House((("box", "top", (), (show,)), ("red", "box", (), (hide, show)), ("egg", "red", (), ())))
        self.assertEqual([method_row(house, "box"), method_row(house, "egg"), slot_of(house, "egg", "hide"),
                          at_slot(house, "egg", 0), slot_of(house, "box", "hide")],
                         [(("show", "box"),), (("show", "red"), ("hide", "red")), 1, ("red", 1), None])

    def test_chains_and_bushes(self):
        self.assertEqual(method_row(HOUSE, "top"), ())
        self.assertEqual(method_row(HOUSE, "egg"), ())
        self.assertEqual(method_row(HOUSE, "box"), (("show", "box"), ("hop", "box")))
        self.assertEqual(method_row(HOUSE, "red"), (("show", "red"), ("hop", "box")))
        self.assertEqual(method_row(HOUSE, "pink"), (("show", "red"), ("hop", "pink")))
        self.assertEqual(method_row(HOUSE, "blue"), (("show", "box"), ("hop", "box"), ("roll", "blue")))

    def test_new_words_in_the_order_of_the_methods(self):
        house = House((("a", "top", (), (tiny("z"), tiny("c"))), ("b", "a", (), (tiny("y"), tiny("c"), tiny("b"))),
                       ("c", "b", (), (tiny("b"), tiny("a"), tiny("z")))))
        self.assertEqual(method_row(house, "c"), (("z", "c"), ("c", "b"), ("y", "b"), ("b", "c"), ("a", "c")))
        self.assertEqual([at_slot(house, "c", slot) for slot in range(5)],
                         [("c", 2), ("b", 1), ("b", 0), ("c", 0), ("c", 1)])

    def test_made_houses(self):
        for seed in range(80):
            house = Maker(seed).house(3)
            for name in ["top"] + [row[0] for row in house.classes]:
                row = method_row(house, name)
                self.assertEqual(row, plain_row(house, name))
                self.assertEqual(tuple(sorted(row)), methods_of(house, name))
                for slot, (word, _) in enumerate(row):
                    self.assertEqual(slot_of(house, name, word), slot)
                    self.assertEqual(at_slot(house, name, slot), method_of(house, name, word))
                    for below in [other[0] for other in house.classes if name in uppers(house, other[0])]:
                        self.assertEqual(slot_of(house, below, word), slot)
                self.raises(BadSlot, at_slot, house, name, len(row))

    def test_words_that_the_row_does_not_have(self):
        self.assertIsNone(slot_of(HOUSE, "box", "roll"))
        self.assertIsNone(slot_of(HOUSE, "top", "show"))
        self.assertIsNone(slot_of(HOUSE, "box", "x"))

    def test_wrong_arguments(self):
        for function, more in [(method_row, ()), (slot_of, ("show",)), (at_slot, (0,))]:
            self.strays_raise(BadName, lambda value: function(HOUSE, value, *more), STRAY + ["num", "gray"])
            self.strays_raise(NoHouse, lambda value: function(value, "box", *more), strays(STRAY[-1]) + [FAMILY])
        self.strays_raise(BadWord, lambda value: slot_of(HOUSE, "box", value), STRAY + ["abcdefg", "A", "x ", 5])
        self.strays_raise(BadWord, lambda value: slot_of(HOUSE, "top", value), STRAY)
        self.strays_raise(BadSlot, lambda value: at_slot(HOUSE, "box", value), STRAY + [2, -1, "show", (0,), [0]])
        self.strays_raise(BadSlot, lambda value: at_slot(HOUSE, "top", value), STRAY + [0])
        self.raises(NoHouse, slot_of, 1, 2, 3)
        self.raises(BadName, slot_of, HOUSE, 2, 3)
        self.raises(BadName, at_slot, HOUSE, 2, 3)


if __name__ == "__main__":
    unittest.main()
