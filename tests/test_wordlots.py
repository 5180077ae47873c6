"""Lots of words: points 1 and 31."""

import itertools
import unittest

from helpers import FAMILY, STRAY, Maker, Raising, strays, tiny

from classhouse.errors import BadNames, BadWords, NoHouse
from classhouse.houses import House
from classhouse.seen import method_of
from classhouse.wordlots import closed_lots, closed_words, first_who, seen_by_all, who_has

HOUSE = House(FAMILY)
BARE = House((("box", "top", (), ()), ("red", "box", (), ())))


def many_words(seed):
    """A house of up to eight classes with methods of up to six words."""
    chance = Maker(seed).chance
    rows, names, words = [], [], "uvwxyz"[:chance.randint(1, 6)]
    for name in "abcdefgh"[:chance.randint(1, 8)]:
        picked = chance.sample(words, min(len(words), chance.choice([0, 1, 2, 3, 4])))
        rows.append((name, chance.choice(["top"] + names), (), tuple(tiny(word) for word in picked)))
        names.append(name)
    return House(tuple(rows))


def words_of(house):
    return sorted({method[0] for row in house.classes for method in row[3]})


def names_in(house):
    return ["top"] + [row[0] for row in house.classes]


class WordLotsTest(unittest.TestCase, Raising):
    def test_example(self):
        show, hide = tiny("show"), tiny("hide")
        house = House((("box", "top", (), (show,)), ("red", "box", (), (hide,)), ("egg", "top", (), (hide,))))
        self.assertEqual([who_has(house, ("hide",)), first_who(house, ("show",)), seen_by_all(house, ("red", "egg")),
                          closed_words(house, ()), closed_lots(house)],
                         [("red", "egg"), ("box",), ("hide",), (), [(), ("hide",), ("show",), ("hide", "show")]])

    def test_no_words(self):
        self.assertEqual(who_has(HOUSE, ()), ("top", "box", "red", "blue", "pink", "egg"))
        self.assertEqual(first_who(HOUSE, ()), ("top",))
        self.assertEqual(closed_words(HOUSE, ()), ())
        self.assertEqual(who_has(BARE, ()), ("top", "box", "red"))

    def test_words_of_some_classes(self):
        self.assertEqual(who_has(HOUSE, ("show",)), ("box", "red", "blue", "pink"))
        self.assertEqual(first_who(HOUSE, ("show",)), ("box",))
        self.assertEqual(who_has(HOUSE, ("hop", "roll")), ("blue",))
        self.assertEqual(first_who(HOUSE, ("roll",)), ("blue",))
        self.assertEqual(closed_words(HOUSE, ("roll",)), ("hop", "roll", "show"))
        self.assertEqual(closed_words(HOUSE, ("hop",)), ("hop", "show"))

    def test_several_first_ones(self):
        house = House((("a", "top", (), ()), ("b", "a", (), (tiny("x"),)), ("c", "b", (), (tiny("y"),)),
                       ("d", "a", (), (tiny("y"), tiny("x"))), ("e", "d", (), ())))
        self.assertEqual(who_has(house, ("x",)), ("b", "c", "d", "e"))
        self.assertEqual(first_who(house, ("x",)), ("b", "d"))
        self.assertEqual(first_who(house, ("x", "y")), ("c", "d"))

    def test_words_that_nobody_has(self):
        self.assertEqual([who_has(HOUSE, ("fly",)), first_who(HOUSE, ("fly",))], [(), ()])
        self.assertEqual(who_has(HOUSE, ("fly", "show")), ())
        self.assertEqual(closed_words(HOUSE, ("fly",)), ("hop", "roll", "show"))
        self.assertEqual(who_has(HOUSE, ("x",)), ())
        self.assertEqual(closed_words(BARE, ("fly",)), ())

    def test_words_that_no_class_has_together(self):
        house = House((("a", "top", (), (tiny("x"),)), ("b", "top", (), (tiny("y"),)), ("c", "a", (), (tiny("z"),))))
        self.assertEqual(who_has(house, ("x", "y")), ())
        self.assertEqual(closed_words(house, ("x", "y")), ("x", "y", "z"))
        self.assertEqual(closed_lots(house), [(), ("x",), ("y",), ("x", "z"), ("x", "y", "z")])

    def test_seen_by_all(self):
        self.assertEqual(seen_by_all(HOUSE, ("blue",)), ("hop", "roll", "show"))
        self.assertEqual(seen_by_all(HOUSE, ("pink", "blue")), ("hop", "show"))
        self.assertEqual([seen_by_all(HOUSE, ("egg", "blue")), seen_by_all(HOUSE, ("top",)),
                          seen_by_all(HOUSE, ("box", "top"))], [(), (), ()])

    def test_houses_without_methods(self):
        self.assertEqual(closed_lots(BARE), [()])
        self.assertEqual(seen_by_all(BARE, ("red",)), ())
        self.assertEqual(closed_words(BARE, ()), ())

    def test_closed_lots_are_as_told(self):
        self.assertEqual(closed_lots(HOUSE), [(), ("hop", "show"), ("hop", "roll", "show")])
        found = closed_lots(HOUSE)
        found.clear()
        self.assertEqual(len(closed_lots(HOUSE)), 3)

    def test_by_another_way(self):
        for seed in range(60):
            house = many_words(seed)
            words, closed = words_of(house), []
            for lot in [row for many in range(len(words) + 1) for row in itertools.combinations(words, many)]:
                who = tuple(name for name in names_in(house)
                            if all(method_of(house, name, word) is not None for word in lot))
                self.assertEqual(who_has(house, lot), who)
                above = {row[0]: row[1] for row in house.classes}
                self.assertEqual(first_who(house, lot), tuple(name for name in who if above.get(name) not in who))
                shared = tuple(word for word in words if all(method_of(house, name, word) is not None for name in who))
                self.assertEqual(closed_words(house, lot), shared)
                if who:
                    self.assertEqual(seen_by_all(house, who), shared)
                    self.assertEqual(seen_by_all(house, who[::-1]), shared)
                    self.assertEqual(who_has(house, shared), who)
                if shared == lot:
                    closed.append(lot)
            self.assertEqual(closed_lots(house), closed)

    def test_houses_of_very_many_words(self):
        rows = tuple((name, "top", (), tuple(tiny(name + letter) for letter in "dcba")) for name in "zyxwvuts")
        lots = closed_lots(House(rows))
        self.assertEqual([len(lot) for lot in lots], [0] + [4] * 8 + [32])
        self.assertEqual(lots[1], ("sa", "sb", "sc", "sd"))
        chain = tuple((name, "top" if at == 0 else "zyxwvuts"[at - 1], (), row[3])
                      for at, (name, row) in enumerate(zip("zyxwvuts", rows)))
        self.assertEqual([len(lot) for lot in closed_lots(House(chain))], [0, 4, 8, 12, 16, 20, 24, 28, 32])

    def test_wrong_words(self):
        wrong = [("show", "show"), ("show", "hop"), ["show"], "show", ("Show",), ("show", None), ("sevenly",), ("",),
                 ("hop", 1), (("hop",),), ("hop", ["show"]), (1, "hop")]
        for function in (who_has, first_who, closed_words):
            self.strays_raise(BadWords, lambda value: function(HOUSE, value), wrong + strays(()))
            self.strays_raise(NoHouse, lambda value: function(value, ()), strays(STRAY[-1]) + [FAMILY])
            self.raises(NoHouse, function, 1, 2)

    def test_wrong_names(self):
        wrong = [("box", "box"), ["box"], "box", ("gray",), ("num",), ("box", None), ("box", ["red"]), (), (1, "box"),
                 ("top", "top")]
        self.strays_raise(BadNames, lambda value: seen_by_all(HOUSE, value), wrong + STRAY)
        self.strays_raise(NoHouse, lambda value: seen_by_all(value, ("box",)), strays(STRAY[-1]) + [FAMILY])
        self.strays_raise(NoHouse, closed_lots, strays(STRAY[-1]) + [FAMILY])
        self.raises(NoHouse, seen_by_all, 1, 2)


if __name__ == "__main__":
    unittest.main()
