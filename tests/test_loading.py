"""Late loading and houses that grow: points 1, 25 and 26."""

import itertools
import unittest

from helpers import FAMILY, GIVE, NO_TUPLES, STRAY, Maker, Raising, changed, strays, tiny, uppers

from classhouse.errors import BadLoaded, BadStock, BadUses, NoHouse, NotGrown
from classhouse.houses import House
from classhouse.linking import linked, pool
from classhouse.loading import does_grow, late_loads, least_stock, shifted, stale, taken
from classhouse.seen import fields_of, methods_of

HOUSE = House(FAMILY)
ALL = ("blue", "box", "egg", "pink", "red")
SMALL = House((("box", "top", (), ()), ("red", "box", (), ()), ("egg", "top", (), ())))


def plain_loads(house, stock, loaded, uses):
    """late_loads, told in another way: by all that must be loaded, one behind the other."""
    wanted = [(index, name) for index, use in enumerate(uses) for name in uppers(house, use[1])[::-1][1:]]
    for index, name in wanted:
        if name not in loaded:
            if name not in stock:
                return ("lacks", index, name, loaded)
            loaded = loaded + (name,)
    return ("all", loaded)


def entries_of(house):
    """All entries of a house."""
    found = [("class", "top")]
    for name in [row[0] for row in house.classes]:
        found.append(("class", name))
        found.extend(("field", name, word) for word, _ in fields_of(house, name))
        found.extend(("method", name, word) for word, _ in methods_of(house, name))
    return found


def loads(house):
    """All values of loaded of a house."""
    names = [row[0] for row in house.classes]
    for many in range(len(names) + 1):
        for row in itertools.permutations(names, many):
            if all(set(uppers(house, name)[1:-1]) <= set(row[:at]) for at, name in enumerate(row)):
                yield row


class LateLoadsTest(unittest.TestCase, Raising):
    def test_example(self):
        uses = (("class", "top"), ("class", "red"), ("class", "egg"))
        self.assertEqual([late_loads(SMALL, ("box", "egg", "red"), (), uses), late_loads(SMALL, ("red",), ("box",), uses),
                          late_loads(SMALL, ("red",), (), uses), least_stock(SMALL, ("egg",), uses)],
                         [("all", ("box", "red", "egg")), ("lacks", 2, "egg", ("box", "red")),
                          ("lacks", 1, "box", ()), ("box", "red")])

    def test_uses_that_load_nothing(self):
        self.assertEqual(late_loads(HOUSE, (), (), ()), ("all", ()))
        self.assertEqual(late_loads(HOUSE, (), (), (("class", "top"),) * 40), ("all", ()))
        self.assertEqual(late_loads(HOUSE, (), ("egg", "box"), (("field", "box", "x"), ("class", "egg"))),
                         ("all", ("egg", "box")))

    def test_uppermost_first(self):
        self.assertEqual(late_loads(HOUSE, ALL, (), (("method", "pink", "show"),)), ("all", ("box", "red", "pink")))
        self.assertEqual(late_loads(HOUSE, ALL, ("egg",), (("field", "blue", "x"), ("class", "pink"))),
                         ("all", ("egg", "box", "blue", "red", "pink")))
        self.assertEqual(late_loads(HOUSE, ALL, ("box",), (("field", "red", "x"),)), ("all", ("box", "red")))

    def test_the_class_that_is_named_is_loaded_not_the_one_that_has_it(self):
        self.assertEqual(late_loads(HOUSE, ALL, (), (("field", "blue", "x"),)), ("all", ("box", "blue")))
        self.assertEqual(late_loads(HOUSE, ("box",), (), (("method", "blue", "show"),)),
                         ("lacks", 0, "blue", ("box",)))

    def test_what_lacks(self):
        uses = (("class", "egg"), ("class", "top"), ("class", "pink"))
        self.assertEqual(late_loads(HOUSE, ("egg", "pink"), (), uses), ("lacks", 2, "box", ("egg",)))
        self.assertEqual(late_loads(HOUSE, ("box", "egg", "pink"), (), uses), ("lacks", 2, "red", ("egg", "box")))
        self.assertEqual(late_loads(HOUSE, ("box", "red"), ("egg",), uses), ("lacks", 2, "pink", ("egg", "box", "red")))
        self.assertEqual(late_loads(HOUSE, ("pink", "red"), ("egg",), uses), ("lacks", 2, "box", ("egg",)))
        self.assertEqual(late_loads(HOUSE, (), (), uses), ("lacks", 0, "egg", ()))

    def test_loaded_classes_need_no_stock(self):
        self.assertEqual(late_loads(HOUSE, (), ("box", "red"), (("class", "red"), ("field", "box", "x"))),
                         ("all", ("box", "red")))

    def test_by_another_way(self):
        for seed in range(25):
            maker = Maker(seed)
            house = maker.house(3)
            names = sorted(row[0] for row in house.classes)
            entries, rows = entries_of(house), list(loads(house))
            for _ in range(30):
                stock = tuple(name for name in names if maker.chance.random() < 0.7)
                uses = tuple(maker.chance.choice(entries) for _ in range(maker.chance.randint(0, 5)))
                loaded = maker.chance.choice(rows)
                told = late_loads(house, stock, loaded, uses)
                self.assertEqual(told, plain_loads(house, stock, loaded, uses))
                least = least_stock(house, loaded, uses)
                self.assertEqual(set(least) <= set(stock), told[0] == "all")
                self.assertEqual(late_loads(house, least, loaded, uses)[0], "all")
                for name in least:
                    fewer = tuple(other for other in least if other != name)
                    self.assertEqual(late_loads(house, fewer, loaded, uses)[0], "lacks")

    def test_least_stock(self):
        uses = (("class", "pink"), ("class", "top"), ("field", "egg", "x"))
        self.assertEqual(least_stock(HOUSE, (), uses), ("box", "egg", "pink", "red"))
        self.assertEqual(least_stock(HOUSE, ("box", "egg"), uses), ("pink", "red"))
        self.assertEqual(least_stock(HOUSE, ("box", "egg", "red", "pink"), uses), ())
        self.assertEqual(least_stock(HOUSE, ("blue",)[:0], ()), ())

    def test_wrong_stocks(self):
        wrong = [("top",), ("box", "box"), ("red", "box"), ("gray",), ("box", "gray"), ["box"], ("box", None), ("num",),
                 ("box", 1), (("box",),), ("a", "b"), ("top", "zebra")]
        for value in wrong + strays(()):
            self.raises(BadStock, late_loads, HOUSE, value, None, None)

    def test_wrong_loaded(self):
        wrong = [("top",), ("box", "box"), ("red",), ("red", "box"), ("box", "pink"), ("box", "pink", "red"), ["box"],
                 ("gray",), ("egg", "red"), ("egg", "egg"), ("box", None), ("box", ["red"]), ("egg", "top")]
        for value in wrong + strays(()):
            self.raises(BadLoaded, late_loads, HOUSE, (), value, None)
            self.raises(BadLoaded, least_stock, HOUSE, value, None)
        self.assertEqual(least_stock(HOUSE, ("egg", "box", "blue", "red", "pink"), ()), ())

    def test_wrong_uses(self):
        for value in NO_TUPLES + [(("class", "top"),) * 41, [("class", "top")]]:
            self.raises(BadUses, late_loads, HOUSE, (), (), value, index=None)
            self.raises(BadUses, least_stock, HOUSE, (), value, index=None)
        wrong = [("class",), ("class", "gray"), ("field", "box", "w"), ("method", "egg", "show"), ["class", "box"],
                 ("class", "box", "x"), "class"]
        for value in wrong + STRAY:
            self.raises(BadUses, late_loads, HOUSE, (), (), (("class", "egg"), value, None), index=1)
            self.raises(BadUses, least_stock, HOUSE, (), (value, None), index=0)

    def test_the_first_argument_is_told(self):
        for value in strays(STRAY[-1]) + [FAMILY]:
            self.raises(NoHouse, late_loads, value, (), (), ())
            self.raises(NoHouse, late_loads, value, None, None, None)
            self.raises(NoHouse, least_stock, value, None, None)


def grown_plainly(one, other):
    """does_grow, told in another way: the rows one by one."""
    if len(one.classes) != len(other.classes):
        return False
    for row, grown in zip(one.classes, other.classes):
        if row[0] != grown[0] or row[1] != grown[1]:
            return False
        if len(row[2]) > len(grown[2]) or len(row[3]) > len(grown[3]):
            return False
        if [*zip(row[2], grown[2])] != [*zip(row[2], row[2])]:
            return False
        if [method[:3] for method, _ in zip(grown[3], row[3])] != [method[:3] for method in row[3]]:
            return False
    return True


class GrowTest(unittest.TestCase, Raising):
    def grown_by(self, path, part):
        return House(changed(FAMILY, path, part))

    def test_example(self):
        show = ("show", (), "num", (("new", "red"), ("get", "red", "y"), ("give",)), ())
        one = House((("box", "top", (), (show,)), ("red", "box", (("y", "num"),), ())))
        other = House((("box", "top", (("x", "num"),), (show,)), ("red", "box", (("y", "num"),), (show,))))
        self.assertEqual([does_grow(one, other), does_grow(other, one), stale(one, other), taken(one, other),
                          shifted(one, other)],
                         [True, False, [("box", ("field", "red", "y"))], [("red", "show")], ("red",)])

    def test_what_may_change(self):
        self.assertTrue(does_grow(HOUSE, HOUSE))
        self.assertTrue(does_grow(HOUSE, House(FAMILY)))
        self.assertTrue(does_grow(HOUSE, self.grown_by((4, 2), FAMILY[4][2] + (("y", "num"),))))
        self.assertTrue(does_grow(HOUSE, self.grown_by((4, 3), (tiny("test"), tiny("more")))))
        self.assertTrue(does_grow(HOUSE, self.grown_by((0, 3, 0), ("show", (), "num", (("go", 0),), ((0, 1, "egg", 0),)))))

    def test_what_must_stay(self):
        plain = (("box", "top", (("x", "num"), ("y", "top")), (tiny("show"), tiny("hop", ("num",), "top"))),
                 ("red", "box", (("z", "num"),), (tiny("roll"),)), ("egg", "top", (), ()))
        one = House(plain)
        self.assertTrue(does_grow(one, House(plain)))
        for path, part in [
                ((2, 0), "ball"), ((2, 1), "box"), ((1, 1), "top"), ((0, 2), plain[0][2][::-1]),
                ((0, 2), (("v", "num"),) + plain[0][2]), ((0, 2), plain[0][2][:1]), ((0, 2, 0, 0), "v"),
                ((0, 2, 0, 1), "top"), ((1, 2), ()), ((1, 3), ()), ((1, 3), (tiny("test"),) + plain[1][3]),
                ((0, 3), plain[0][3][::-1]), ((0, 3), plain[0][3][1:]), ((0, 3, 1, 1), ()), ((0, 3, 1, 2), "num"),
                ((0, 3, 1, 1), ("top",)), ((0, 3, 1, 0), "test")]:
            other = House(changed(plain, path, part))
            self.assertFalse(does_grow(one, other), (path, part))
            for function in (stale, taken, shifted):
                self.raises(NotGrown, function, one, other)

    def test_methods_stay_in_their_order(self):
        swapped = self.grown_by((3, 3), FAMILY[3][3] + (tiny("test"),))
        other = self.grown_by((3, 3), (tiny("test"),) + FAMILY[3][3])
        self.assertEqual([does_grow(HOUSE, swapped), does_grow(HOUSE, other)], [True, False])

    def test_the_same_classes_in_the_same_order(self):
        self.assertFalse(does_grow(HOUSE, House(FAMILY[:4] + (FAMILY[4], ("gray", "top", (), ())))))
        a, b = ("a", "top", (), ()), ("b", "top", (), ())
        self.assertFalse(does_grow(House((a, b)), House((b, a))))
        self.assertFalse(does_grow(House((a, b)), House((a,))))
        self.assertFalse(does_grow(House((a,)), House((a, b))))

    def test_a_house_that_stays_has_nothing_stale(self):
        self.assertEqual([stale(HOUSE, HOUSE), taken(HOUSE, HOUSE), shifted(HOUSE, HOUSE)], [[], [], ()])

    def test_stale_entries(self):
        code = (("new", "pink"), ("get", "pink", "x"), ("get", "pink", "w"), ("call", "pink", "show"), ("is", "top"),
                ("call", "red", "show"), ("call", "blue", "show"), ("get", "egg", "x"), ("call", "red", "show"),
                ("give",))
        naming = ("more", (), "num", code, ((0, 1, "box", 0),))
        one = House(FAMILY[:4] + (("egg", "top", (("x", "egg"),), (naming,)),))
        other = House((
            FAMILY[0][:2] + (FAMILY[0][2] + (("v", "num"),), FAMILY[0][3]), FAMILY[1],
            FAMILY[2][:3] + (FAMILY[2][3] + (tiny("show"),),), FAMILY[3][:3] + (FAMILY[3][3] + (tiny("show"),),),
            ("egg", "top", (("x", "egg"), ("u", "egg")), (("more", (), "num", GIVE, ()),))))
        self.assertEqual(stale(one, other), [
            ("egg", ("field", "pink", "w")), ("egg", ("method", "pink", "show")), ("egg", ("method", "blue", "show"))])
        self.assertEqual(taken(one, other), [("blue", "show"), ("pink", "show")])
        self.assertEqual(shifted(one, other), ("red", "pink"))

    def test_methods_that_are_not_seen_are_not_taken(self):
        one = House((("box", "top", (), (tiny("hop"),)), ("red", "box", (), ()), ("egg", "top", (), ())))
        other = House((("box", "top", (), (tiny("hop"), tiny("show"))), ("red", "box", (), (tiny("show"), tiny("hop"))),
                       ("egg", "top", (), (tiny("hop"),))))
        self.assertEqual(taken(one, other), [("red", "hop")])

    def test_a_class_below_one_that_shifts_is_shifted(self):
        one = House((("a", "top", (), ()), ("b", "a", (("x", "num"),), ()), ("c", "b", (), ()), ("d", "c", (("y", "num"),), ()),
                     ("e", "a", (), ())))
        other = House((("a", "top", (("v", "num"),), ()), *one.classes[1:]))
        self.assertEqual(shifted(one, other), ("b", "c", "d"))
        behind = House((*one.classes[:2], ("c", "b", (("w", "num"),), ()), *one.classes[3:]))
        self.assertEqual(shifted(one, behind), ("d",))

    def test_by_another_way(self):
        grown = 0
        for seed in range(150):
            maker = Maker(seed)
            one = maker.house(14)
            other = maker.grown(one)
            grown += one != other
            self.assertTrue(does_grow(one, other))
            self.assertEqual(stale(one, other), [
                (row[0], entry) for row in one.classes for entry in pool(one, row[0])
                if linked(one, entry) != linked(other, entry)])
            self.assertEqual(taken(one, other), [
                (row[0], method[0]) for row in other.classes for method in row[3]
                if method[0] in dict(methods_of(one, row[0]))
                and method[0] not in [own[0] for first in one.classes for own in first[3] if first[0] == row[0]]])
            self.assertEqual(shifted(one, other), tuple(
                row[0] for row in one.classes
                if any(linked(one, ("field", row[0], word)) != linked(other, ("field", row[0], word))
                       for word, _ in fields_of(one, row[0]))))
            for seed_too in range(3):
                third = Maker(seed_too).house(3)
                self.assertEqual(does_grow(one, third), grown_plainly(one, third))
        self.assertGreater(grown, 100)

    def test_just_these_entries_are_stale(self):
        many = 0
        for seed in range(150):
            maker = Maker(seed)
            one = maker.house(14)
            other = maker.grown(one)
            wider = [row[0] for row, grown in zip(one.classes, other.classes) if len(row[2]) < len(grown[2])]
            for name, entry in [(row[0], entry) for row in one.classes for entry in pool(one, row[0])]:
                line, told = uppers(one, entry[1]), linked(one, entry)
                if entry[0] == "class":
                    wanted = False
                elif entry[0] == "field":
                    wanted = any(upper in wider for upper in uppers(one, told[0])[1:])
                else:
                    wanted = any((upper, entry[2]) in taken(one, other) for upper in line[:line.index(told[0])])
                self.assertEqual((name, entry) in stale(one, other), wanted)
                many += wanted
        self.assertGreater(many, 5)

    def test_returned_lists_are_new(self):
        for function in (stale, taken):
            function(HOUSE, HOUSE).append(1)
            self.assertEqual(function(HOUSE, HOUSE), [])

    def test_wrong_houses(self):
        for function in (does_grow, stale, taken, shifted):
            for value in strays(STRAY[-1]) + [FAMILY]:
                self.raises(NoHouse, function, value, HOUSE)
                self.raises(NoHouse, function, HOUSE, value)
        for function in (stale, taken, shifted):
            self.raises(NotGrown, function, HOUSE, SMALL)


if __name__ == "__main__":
    unittest.main()
