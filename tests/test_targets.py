"""Upper methods and targets: points 1 and 30."""

import unittest

from helpers import FAMILY, STRAY, Maker, Raising, strays, tiny, uppers

from classhouse.errors import BadName, BadWord, NoHouse, NotOwn
from classhouse.houses import House
from classhouse.kinds import downward
from classhouse.seen import method_of
from classhouse.targets import method_line, reached_from, targets, upper_method, widest_call

HOUSE = House(FAMILY)
WORDS = ("show", "hop", "roll", "none")


class TargetsTest(unittest.TestCase, Raising):
    def test_example(self):
        show = tiny("show")
        house = House((("box", "top", (), (show,)), ("red", "box", (), (show,)), ("egg", "red", (), ()),
                       ("blue", "box", (), ())))
        self.assertEqual([method_line(house, "egg", "show"), upper_method(house, "red", "show"),
                          targets(house, "box", "show"), reached_from(house, "box", "show"), widest_call(house)],
                         [("red", "box"), ("box", 0), ("box", "red"), ("box", "blue"), (2, "box", "show")])

    def test_method_line(self):
        self.assertEqual(method_line(HOUSE, "pink", "show"), ("red", "box"))
        self.assertEqual(method_line(HOUSE, "pink", "hop"), ("pink", "box"))
        self.assertEqual(method_line(HOUSE, "box", "show"), ("box",))
        self.assertEqual([method_line(HOUSE, "top", "show"), method_line(HOUSE, "red", "roll"),
                          method_line(HOUSE, "egg", "x")], [(), (), ()])

    def test_upper_method(self):
        self.assertEqual(upper_method(HOUSE, "pink", "show"), ("red", 0))
        self.assertEqual(upper_method(HOUSE, "pink", "hop"), ("box", 1))
        self.assertEqual(upper_method(HOUSE, "blue", "hop"), ("box", 1))
        self.assertIsNone(upper_method(HOUSE, "blue", "roll"))
        self.assertIsNone(upper_method(HOUSE, "box", "show"))
        self.assertIsNone(upper_method(HOUSE, "top", "show"))
        self.assertIsNone(upper_method(HOUSE, "egg", "show"))

    def test_targets(self):
        self.assertEqual(targets(HOUSE, "top", "show"), ("box", "red"))
        self.assertEqual(targets(HOUSE, "top", "roll"), ("blue",))
        self.assertEqual(targets(HOUSE, "box", "roll"), ("blue",))
        self.assertEqual(targets(HOUSE, "red", "hop"), ("box", "pink"))
        self.assertEqual(targets(HOUSE, "blue", "show"), ("box",))
        self.assertEqual(targets(HOUSE, "pink", "show"), ("red",))
        self.assertEqual([targets(HOUSE, "red", "roll"), targets(HOUSE, "egg", "show")], [(), ()])

    def test_reached_from(self):
        self.assertEqual(reached_from(HOUSE, "box", "show"), ("box", "blue"))
        self.assertEqual(reached_from(HOUSE, "red", "show"), ("red", "pink"))
        self.assertEqual(reached_from(HOUSE, "box", "hop"), ("box", "red", "blue"))
        self.assertEqual(reached_from(HOUSE, "pink", "hop"), ("pink",))

    def test_not_own(self):
        for name, word in [("top", "show"), ("egg", "show"), ("pink", "show"), ("blue", "hop"), ("box", "x"),
                           ("box", "roll")]:
            self.raises(NotOwn, reached_from, HOUSE, name, word)

    def test_widest_call(self):
        self.assertEqual(widest_call(HOUSE), (2, "box", "hop"))
        self.assertIsNone(widest_call(House((("a", "top", (), ()), ("b", "a", (), ())))))
        self.assertEqual(widest_call(House((("b", "top", (), ()), ("a", "top", (), (tiny("q"), tiny("p")))))), (1, "a", "p"))
        self.assertEqual(widest_call(House((("b", "top", (), ()), ("a", "b", (), (tiny("q"), tiny("p")))))), (1, "b", "p"))
        self.assertEqual(widest_call(House((("a", "top", (), (tiny("q"), tiny("p"))), ("b", "a", (), (tiny("q"),)),
                                            ("c", "b", (), (tiny("q"),))))), (3, "a", "q"))
        bush = House((("z", "top", (), ()), ("y", "z", (), (tiny("b"),)), ("x", "z", (), (tiny("b"),)),
                      ("w", "top", (), (tiny("a"),)), ("v", "w", (), (tiny("a"),))))
        self.assertEqual(widest_call(bush), (2, "z", "b"))

    def test_made_houses(self):
        for seed in range(80):
            house = Maker(seed).house(3)
            names = [row[0] for row in house.classes]
            best = []
            for name in ["top"] + names:
                for word in WORDS:
                    nearest = {below: method_of(house, below, word) for below in names}
                    own = [upper for upper in uppers(house, name) if nearest.get(upper) and nearest[upper][0] == upper]
                    self.assertEqual(method_line(house, name, word), tuple(own))
                    above = uppers(house, name)[1:]
                    self.assertEqual(upper_method(house, name, word), method_of(house, above[0], word) if above else None)
                    hit = [nearest[below][0] for below in downward(house, name) if nearest.get(below)]
                    self.assertEqual(targets(house, name, word), tuple(other for other in names if other in hit))
                    if name != "top" and hit:
                        best.append((-len(set(hit)), names.index(name), word))
                    if own[:1] == [name]:
                        self.assertEqual(reached_from(house, name, word), tuple(
                            below for below in names if nearest[below] and nearest[below][0] == name))
                    else:
                        self.raises(NotOwn, reached_from, house, name, word)
            many, index, word = min(best)
            self.assertEqual(widest_call(house), (-many, names[index], word))

    def test_wrong_arguments(self):
        for function in (method_line, upper_method, targets, reached_from):
            self.strays_raise(BadName, lambda value: function(HOUSE, value, "show"), STRAY + ["num", "gray"])
            self.strays_raise(NoHouse, lambda value: function(value, "box", "show"), strays(STRAY[-1]) + [FAMILY])
            self.strays_raise(BadWord, lambda value: function(HOUSE, "box", value), STRAY + ["abcdefg", "A", "x ", 5])
            self.strays_raise(BadWord, lambda value: function(HOUSE, "top", value), STRAY)
            self.raises(NoHouse, function, 1, 2, 3)
            self.raises(BadName, function, HOUSE, 2, 3)
        self.strays_raise(NoHouse, widest_call, strays(STRAY[-1]) + [FAMILY])


if __name__ == "__main__":
    unittest.main()
