"""Beginnings of classes: points 1, 49, 50 and 51."""

import itertools
import random
import unittest

from helpers import FAMILY, STRAY, Raising, strays

from classhouse.beginnings import is_early, met_early, order_of, ring_to, use_rings, uses_of
from classhouse.errors import BadName, BadRowOfNames, NoHouse
from classhouse.houses import House

NAMES = ("box", "red", "egg", "blue", "pink", "ash", "oak", "elm")
END = (("push", 0), ("give",))


def begin(*steps, ins=(), word="begin"):
    return word, ins, "num", tuple(steps) + END, ()


def house_by(text):
    """A house told as "box:egg red/box:", each class with the one above it, and with what its beginning makes."""
    rows = []
    for part in text.split():
        head, names = part.split(":")
        name, _, upper = head.partition("/")
        steps = [step for other in names.split(",") if other for step in (("new", other), ("drop",))]
        rows.append((name, upper or "top", (), (begin(*steps),) if names else ()))
    return House(tuple(rows))


def uses_plainly(house):
    """A dict from each class to what it uses."""
    return {row[0]: uses_of(house, row[0]) for row in house.classes}


def order_plainly(uses, names):
    """The order, and what is met early."""
    order, early = [], []

    def go(name, ahead):
        for other in uses[name]:
            if other in ahead + [name]:
                early.append((name, other))
            elif other not in order:
                go(other, ahead + [name])
        order.append(name)

    for name in names:
        if name not in order:
            go(name, [])
    return tuple(order), early


def leads(uses, one, other):
    """Tells whether a class leads to another one, by one use or more."""
    found = set(uses[one])
    for _ in uses:
        found |= {further for name in found for further in uses[name]}
    return other in found


def ring_plainly(uses, name):
    """The least of the shortest rows from a class whose last one stands earlier, too."""
    for length in range(2, len(uses) + 2):
        rows = [(name, *row) for row in itertools.product(sorted(uses), repeat=length - 1)
                if row[-1] in (name, *row[:-1])] if length < 6 else rows_by_uses(uses, name, length)
        rows = [row for row in rows if all(other in uses[one] for one, other in zip(row, row[1:]))]
        if rows:
            return min(rows)
    return None


def rows_by_uses(uses, name, length):
    rows = [(name,)]
    for _ in range(length - 1):
        rows = [(*row, other) for row in rows for other in uses[row[-1]]]
    return [row for row in rows if row[-1] in row[:-1]]


def some_house(seed):
    """A house by chance whose classes use one another."""
    chance = random.Random(seed)
    many = chance.randint(1, 8)
    rows = []
    for at, name in enumerate(NAMES[:many]):
        steps = []
        for other in chance.sample(NAMES[:many], min(many, chance.choice([0, 1, 1, 2, 3]))):
            steps.extend([("new", other), ("drop",)])
        upper = chance.choice(("top", "top") + NAMES[:at])
        rows.append((name, upper, (), (begin(*steps),) if chance.random() < 0.8 else ()))
    return House(tuple(rows))


class UsesTest(unittest.TestCase, Raising):
    def test_example(self):
        start, other = begin(("new", "egg"), ("drop",)), begin(("new", "box"), ("drop",))
        house = House((("box", "top", (), (start,)), ("red", "box", (), ()), ("egg", "top", (), (other,))))
        self.assertEqual([uses_of(house, "red"), uses_of(house, "box"), order_of(house, ("red",)),
                          order_of(house, ["egg", "red"]), met_early(house, ("red",))],
                         [("box",), ("egg",), ("egg", "box", "red"), ("box", "egg", "red"), [("egg", "box")]])
        self.assertEqual([use_rings(house), is_early(house, "red"), ring_to(house, "red"), ring_to(house, "egg")],
                         [[("box", "egg")], True, ("red", "box", "egg", "box"), ("egg", "box", "egg")])

    def test_each_step_that_names_a_class(self):
        rows = (("box", "top", (("x", "box"),), (("show", (), "num", END, ()),)), ("egg", "top", (), ()))
        for step in [("new", "box"), ("get", "box", "x"), ("put", "box", "x"), ("call", "box", "show"), ("cast", "box"),
                     ("is", "box")]:
            house = House(rows + (("red", "top", (), (begin(step),)), ("blue", "egg", (), (begin(step),))))
            self.assertEqual([uses_of(house, "red"), uses_of(house, "blue")], [("box",), ("egg", "box")], step)
        # The class that is named counts, not the one that has the field or the method.
        house = House(rows + (("red", "box", (), ()), ("blue", "top", (), (begin(("call", "red", "show")),))))
        self.assertEqual(uses_of(house, "blue"), ("red",))

    def test_kinds_handlers_and_others_name_none(self):
        method = ("begin", (), "egg", (("none",), ("give",)), ((0, 1, "egg", 0),))
        house = House((("box", "top", (("x", "egg"),), (method,)), ("egg", "top", (), ())))
        self.assertEqual(uses_of(house, "box"), ())

    def test_the_class_itself_and_top(self):
        house = House((("box", "top", (), (begin(("new", "box"), ("new", "top"), ("is", "box"), ("cast", "top")),)),
                       ("red", "box", (), (begin(("new", "top"), ("new", "red"), ("new", "egg")),)), ("egg", "top", (), ())))
        self.assertEqual([uses_of(house, name) for name in ("box", "red", "egg")], [(), ("box", "egg"), ()])

    def test_each_once_in_the_order_of_the_steps(self):
        house = house_by("box: egg: red/box:egg,box,egg,blue,red,top blue:")
        self.assertEqual(uses_of(house, "red"), ("box", "egg", "blue"))
        house = house_by("box: egg: red:egg,box,egg blue:red,box,egg")
        self.assertEqual([uses_of(house, "red"), uses_of(house, "blue")], [("egg", "box"), ("red", "box", "egg")])

    def test_steps_out_of_reach_count(self):
        method = ("begin", (), "num", (("go", 2), ("new", "egg"), ("push", 1), ("give",)), ())
        self.assertEqual(uses_of(House((("box", "top", (), (method,)), ("egg", "top", (), ()))), "box"), ("egg",))

    def test_what_is_no_beginning(self):
        for method in [begin(("new", "egg"), ins=("num",)), begin(("new", "egg"), ins=("top", "top")),
                       begin(("new", "egg"), word="start"), begin(("new", "egg"), word="begins")]:
            house = House((("box", "top", (), (method,)), ("red", "box", (), ()), ("egg", "top", (), ())))
            self.assertEqual([uses_of(house, "box"), uses_of(house, "red")], [(), ("box",)])

    def test_the_beginning_of_a_class_above_is_not_its_own(self):
        house = house_by("box:egg red/box: egg: blue/box:red")
        self.assertEqual([uses_of(house, name) for name in ("red", "blue")], [("box",), ("box", "red")])
        method = begin(("new", "egg"))
        house = House((("box", "top", (), (("show", (), "num", END, ()), method)), ("egg", "top", (), ())))
        self.assertEqual(uses_of(house, "box"), ("egg",))

    def test_wrong_values(self):
        for function in (uses_of, is_early, ring_to):
            for value in strays(STRAY[-1]) + [FAMILY]:
                self.raises(NoHouse, function, value, None)
            for value in strays() + ["top", "num", "gray"]:
                self.raises(BadName, function, House(FAMILY), value)
        for value in strays(STRAY[-1]) + [FAMILY]:
            self.raises(NoHouse, use_rings, value)


class OrderTest(unittest.TestCase, Raising):
    def test_uses_begin_ahead(self):
        house = house_by("box:egg,blue red/box: egg: blue:pink pink:")
        self.assertEqual(order_of(house, ("red",)), ("egg", "pink", "blue", "box", "red"))
        self.assertEqual(order_of(house, ("pink", "red")), ("pink", "egg", "blue", "box", "red"))
        self.assertEqual(order_of(house, ["egg", "pink"]), ("egg", "pink"))
        self.assertEqual(met_early(house, ("red", "pink")), [])

    def test_no_classes_and_classes_again(self):
        house = house_by("box:egg red/box: egg:")
        self.assertEqual([order_of(house, ()), order_of(house, []), met_early(house, ()), met_early(house, [])],
                         [(), (), [], []])
        self.assertEqual(order_of(house, ("egg", "egg", "red", "box", "egg")), ("egg", "box", "red"))
        self.assertEqual(order_of(house, ["red"] * 50), ("egg", "box", "red"))

    def test_rings(self):
        house = house_by("box:egg egg:red red:box,blue blue:egg")
        self.assertEqual([order_of(house, ("box",)), met_early(house, ("box",))],
                         [("blue", "red", "egg", "box"), [("red", "box"), ("blue", "egg")]])
        self.assertEqual([order_of(house, ("red",)), met_early(house, ("red",))],
                         [("egg", "box", "blue", "red"), [("egg", "red")]])
        self.assertEqual([order_of(house, ("blue", "box")), met_early(house, ("blue", "box"))],
                         [("box", "red", "egg", "blue"), [("box", "egg"), ("red", "blue")]])

    def test_a_class_above_that_uses_one_below(self):
        house = house_by("box:red red/box:")
        self.assertEqual([order_of(house, ("box",)), met_early(house, ("box",))], [("red", "box"), [("red", "box")]])
        self.assertEqual([order_of(house, ("red",)), met_early(house, ("red",))], [("box", "red"), [("box", "red")]])

    def test_by_chance(self):
        early_ones = 0
        for seed in range(300):
            house = some_house(seed)
            uses = uses_plainly(house)
            names = [random.Random(seed).choice(sorted(uses)) for _ in range(seed % 4)]
            for row in [names, tuple(sorted(uses)), (sorted(uses)[0],)]:
                order, early = order_plainly(uses, row)
                self.assertEqual([order_of(house, row), met_early(house, row)], [order, early])
                early_ones += bool(early)
                self.assertTrue(all(other in order[:order.index(one)] or (one, other) in early
                                    for one in order for other in uses[one]))
        self.assertGreater(early_ones, 100)

    def test_wrong_rows(self):
        house = House(FAMILY)
        for function in (order_of, met_early):
            for value in strays(STRAY[-1]) + [FAMILY]:
                self.raises(NoHouse, function, value, None)
            for value in STRAY:
                if not isinstance(value, (list, tuple)):
                    self.raises(BadRowOfNames, function, house, value, index=None)
            for value in strays() + ["top", "num", "gray"]:
                for row in [(value,), [value], ("box", "red", value, None), ["box", "box", value]]:
                    self.raises(BadRowOfNames, function, house, row, index=row.index(value))
            self.raises(BadRowOfNames, function, house, "box", index=None)
            self.raises(BadRowOfNames, function, house, {"box": 1}, index=None)

    def test_arguments_stay_and_lists_are_new(self):
        house, names = house_by("box:egg egg:box"), ["box", "egg"]
        met_early(house, names).append(1)
        self.assertEqual([met_early(house, names), order_of(house, names), names],
                         [[("egg", "box")], ("egg", "box"), ["box", "egg"]])


class RingTest(unittest.TestCase):
    def test_no_ring(self):
        house = house_by("box:egg red/box: egg: blue:box,egg,red")
        self.assertEqual(use_rings(house), [])
        for name in ("box", "red", "egg", "blue"):
            self.assertEqual([is_early(house, name), ring_to(house, name)], [False, None])
        # Two ways to one class are no ring, and neither is a class that names itself.
        house = house_by("a:b,c b:d c:d,c d:")
        self.assertEqual([use_rings(house), is_early(house, "a"), ring_to(house, "a")], [[], False, None])

    def test_rings_of_uses(self):
        house = house_by("pink:oak oak:pink box:egg egg:red red:box ash:box elm:")
        self.assertEqual(use_rings(house), [("box", "egg", "red"), ("oak", "pink")])
        self.assertEqual([ring_to(house, name) for name in ("box", "egg", "ash", "elm", "pink")],
                         [("box", "egg", "red", "box"), ("egg", "red", "box", "egg"),
                          ("ash", "box", "egg", "red", "box"), None, ("pink", "oak", "pink")])
        self.assertEqual([is_early(house, name) for name in ("box", "egg", "ash", "elm", "pink")],
                         [True, True, True, False, True])

    def test_one_ring_within_reach_of_another_one(self):
        house = house_by("d:c c:d,b b:a a:b")
        self.assertEqual(use_rings(house), [("a", "b"), ("c", "d")])
        self.assertEqual([ring_to(house, name) for name in "abcd"],
                         [("a", "b", "a"), ("b", "a", "b"), ("c", "d", "c"), ("d", "c", "d")])

    def test_rings_that_share_a_class(self):
        house = house_by("b:a,c a:b c:b")
        self.assertEqual(use_rings(house), [("a", "b", "c")])
        self.assertEqual([ring_to(house, name) for name in "abc"], [("a", "b", "a"), ("b", "a", "b"), ("c", "b", "c")])

    def test_the_least_of_the_shortest(self):
        house = house_by("a:d,c,b b:e c:b,d d:c e:b")
        # Shorter than by way of b, and less than by way of d.
        self.assertEqual(ring_to(house, "a"), ("a", "b", "e", "b"))
        house = house_by("a:d,c d:c c:d")
        self.assertEqual(ring_to(house, "a"), ("a", "c", "d", "c"))
        house = house_by("a:b b:c,d c:e d:b e:b")
        self.assertEqual(ring_to(house, "a"), ("a", "b", "d", "b"))

    def test_eight_classes_in_a_ring(self):
        house = house_by("h:a a:b b:c c:d d:e e:f f:g g:h")
        self.assertEqual(use_rings(house), [tuple("abcdefgh")])
        self.assertEqual(ring_to(house, "c"), tuple("cdefghabc"))
        full = house_by(" ".join(f"{one}:" + ",".join("abcdefgh"[at + 1:at + 8]) for at, one in enumerate("abcdefgh")))
        self.assertEqual([use_rings(full), ring_to(full, "a")], [[], None])

    def test_by_chance(self):
        rings = 0
        for seed in range(300):
            house = some_house(seed)
            uses = uses_plainly(house)
            found = {tuple(sorted(other for other in uses if leads(uses, one, other) and leads(uses, other, one)))
                     for one in uses}
            self.assertEqual(use_rings(house), sorted(ring for ring in found if len(ring) > 1))
            for name in uses:
                ring = ring_plainly(uses, name)
                self.assertEqual(ring_to(house, name), ring)
                self.assertIs(is_early(house, name), ring is not None)
                rings += ring is not None
        self.assertGreater(rings, 100)

    def test_lists_are_new(self):
        house = house_by("box:egg egg:box")
        use_rings(house).append(1)
        self.assertEqual(use_rings(house), [("box", "egg")])


if __name__ == "__main__":
    unittest.main()
