"""Tries within tries, and their rows: points 1, 34 and 35."""

import itertools
import random
import unittest

from helpers import FAMILY, NO_TUPLES, STRAY, Raising, changed, strays, uppers

from classhouse.errors import BadName, BadNesting, BadRows, BadSize, BadStep, NoHouse
from classhouse.houses import House
from classhouse.nestings import caught_in, nesting_paper, rows_by, shows_nesting

HOUSE = House(FAMILY)
NAMES = ("top", "box", "red", "blue", "pink", "egg")
NO_SIZES = STRAY + [0, 21, -1]


def rows_plainly(nesting):
    return [row for one in nesting for row in rows_plainly(one[4]) + [one[:4]]]


def does_meet(one, other):
    return bool(set(range(one[0], one[1])) & set(range(other[0], other[1])))


def is_judged_right(rows, value):
    """shows_nesting, told in another way, for values of the right forms."""
    if value[0] == "cross":
        one, other = rows[value[1]], rows[value[2]]
        return (value[1] < value[2] and does_meet(one, other)
                and bool(set(range(one[0], one[1])) - set(range(other[0], other[1]))))
    own = rows_plainly(value[1])
    if len(own) != len(rows):
        return False
    for places in itertools.permutations(range(len(rows))):
        if all(own[place] == row for place, row in zip(places, rows)) and all(
                places[one] < places[other] for one, other in itertools.combinations(range(len(rows)), 2)
                if does_meet(rows[one], rows[other])):
            return True
    return False


def any_row(chance, size):
    begin = chance.randint(0, size - 1)
    return (begin, chance.randint(begin + 1, size), chance.choice(NAMES), chance.randint(0, size - 1))


def any_nesting(chance, size, begin, end, most):
    """A nesting from begin to end of at most so many tries, and how many it has."""
    tries, many = [], 0
    while many < most and begin < end and chance.random() < 0.8:
        first = chance.randint(begin, end - 1)
        last = chance.randint(first + 1, end)
        inner, more = any_nesting(chance, size, first, last, most - many - 1)
        tries.append((first, last, chance.choice(NAMES), chance.randint(0, size - 1), inner))
        many += more + 1
        begin = last
    return tuple(tries), many


def chain(many):
    """So many tries within one another, all of the same steps."""
    nesting = ()
    for goal in range(many):
        nesting = ((0, 4, "top", goal % 4, nesting),)
    return nesting


class NestingsTest(unittest.TestCase, Raising):
    def test_example(self):
        house = House((("box", "top", (), ()),))
        nesting = ((0, 4, "top", 5, ((1, 2, "box", 4, ()),)),)
        self.assertEqual([rows_by(house, 6, nesting), caught_in(house, 6, nesting, 1, "box"),
                          caught_in(house, 6, nesting, 1, "top"), caught_in(house, 6, nesting, 4, "box")],
                         [((1, 2, "box", 4), (0, 4, "top", 5)), 4, 5, None])
        self.assertEqual([nesting_paper(house, 6, rows_by(house, 6, nesting)),
                          nesting_paper(house, 6, ((0, 2, "top", 0), (1, 3, "top", 0)))],
                         [("nesting", ((0, 4, "top", 5, ((1, 2, "box", 4, ()),)),)), ("cross", 0, 1)])

    def test_no_tries(self):
        self.assertEqual(rows_by(HOUSE, 1, ()), ())
        self.assertIsNone(caught_in(HOUSE, 1, (), 0, "top"))
        self.assertEqual(nesting_paper(HOUSE, 20, ()), ("nesting", ()))

    def test_rows_by(self):
        nesting = ((0, 3, "top", 1, ((0, 1, "box", 2, ()), (1, 3, "red", 3, ((2, 3, "egg", 4, ()),)))),
                   (3, 9, "box", 5, ()), (10, 20, "egg", 19, ()))
        self.assertEqual(rows_by(HOUSE, 20, nesting), (
            (0, 1, "box", 2), (2, 3, "egg", 4), (1, 3, "red", 3), (0, 3, "top", 1), (3, 9, "box", 5),
            (10, 20, "egg", 19)))

    def test_the_innermost_try_that_has_the_class(self):
        nesting = ((0, 9, "top", 1, ((0, 5, "box", 2, ((1, 3, "red", 3, ((2, 3, "egg", 4, ()),)),)),
                                     (5, 9, "egg", 5, ()))),)
        told = [[caught_in(HOUSE, 10, nesting, step, kind) for kind in ("top", "box", "pink", "egg")]
                for step in (0, 1, 2, 3, 4, 5, 8, 9)]
        self.assertEqual(told, [[1, 2, 2, 1], [1, 2, 3, 1], [1, 2, 3, 4], [1, 2, 2, 1], [1, 2, 2, 1], [1, 1, 1, 5],
                                [1, 1, 1, 5], [None] * 4])

    def test_six_tries_and_seven(self):
        flat = tuple((at, at + 1, "top", 0, ()) for at in range(7))
        within = tuple((at, at + 1, "top", 0, ()) for at in range(6))
        for nesting in [chain(6), flat[:6], ((0, 20, "top", 0, within[:5]),), within[:2] + ((2, 6, "box", 0, within[2:5]),)]:
            self.assertEqual(len(rows_by(HOUSE, 20, nesting)), 6)
        for nesting in [chain(7), flat, ((0, 20, "top", 0, within),), ((0, 6, "top", 0, within[:5]), flat[6]),
                        within[:2] + ((2, 6, "box", 0, within[2:6]),), chain(400)]:
            self.raises(BadNesting, rows_by, HOUSE, 20, nesting)
            self.raises(BadNesting, caught_in, HOUSE, 20, nesting, None, None)
            self.assertFalse(shows_nesting(HOUSE, 20, (), ("nesting", nesting)))

    def test_made_nestings_do_as_their_rows(self):
        chance = random.Random(3)
        sizes = set()
        for _ in range(300):
            size = chance.randint(1, 20)
            nesting, many = any_nesting(chance, size, 0, size, 6)
            sizes.add(many)
            rows = rows_by(HOUSE, size, nesting)
            self.assertEqual(list(rows), rows_plainly(nesting))
            for step in range(size):
                for kind in NAMES:
                    goals = [row[3] for row in rows if row[0] <= step < row[1] and row[2] in uppers(HOUSE, kind)]
                    self.assertEqual(caught_in(HOUSE, size, nesting, step, kind), goals[0] if goals else None)
            paper = nesting_paper(HOUSE, size, rows)
            self.assertEqual(paper[0], "nesting")
            self.assertTrue(shows_nesting(HOUSE, size, rows, ("nesting", nesting)))
            self.assertTrue(shows_nesting(HOUSE, size, rows, paper))
        self.assertEqual(sizes, set(range(7)))

    def test_made_rows(self):
        chance = random.Random(8)
        told = {"nesting": 0, "cross": 0}
        for _ in range(500):
            size = chance.choice([2, 3, 4, 7, 20])
            rows = tuple(any_row(chance, size) for _ in range(chance.randint(0, 4)))
            rows = rows + tuple(chance.choice(rows) for _ in range(chance.choice([0, 0, 1])) if rows)
            paper = nesting_paper(HOUSE, size, rows)
            told[paper[0]] += 1
            self.assertTrue(is_judged_right(rows, paper))
            self.assertTrue(shows_nesting(HOUSE, size, rows, paper))
            pairs = list(itertools.product(range(len(rows)), repeat=2))
            for one, other in pairs:
                value = ("cross", one, other)
                self.assertEqual(shows_nesting(HOUSE, size, rows, value), is_judged_right(rows, value))
            crossing = any(is_judged_right(rows, ("cross", one, other)) for one, other in pairs)
            self.assertEqual(paper[0] == "cross", crossing)
            if paper[0] == "nesting":
                for step, kind in itertools.product(range(size), NAMES):
                    goals = [row[3] for row in rows if row[0] <= step < row[1] and row[2] in uppers(HOUSE, kind)]
                    self.assertEqual(caught_in(HOUSE, size, paper[1], step, kind), goals[0] if goals else None)
        self.assertGreater(min(told.values()), 100)

    def test_nestings_of_other_rows(self):
        chance = random.Random(11)
        right = wrong = 0
        for _ in range(400):
            size = chance.choice([2, 3, 5])
            nesting, _ = any_nesting(chance, size, 0, size, 5)
            rows = list(rows_by(HOUSE, size, nesting))
            change = chance.choice(["swap", "shuffle", "class", "less", "more"])
            if change == "shuffle":
                chance.shuffle(rows)
            elif change == "swap" and len(rows) > 1:
                at = chance.randint(0, len(rows) - 2)
                rows[at:at + 2] = rows[at:at + 2][::-1]
            elif change == "class" and rows:
                rows[0] = rows[0][:2] + (chance.choice(NAMES),) + rows[0][3:]
            elif change == "less" and rows:
                rows.pop(chance.randint(0, len(rows) - 1))
            elif change == "more" and rows:
                rows.append(chance.choice(rows))
            value = ("nesting", nesting)
            told = shows_nesting(HOUSE, size, tuple(rows), value)
            self.assertEqual(told, is_judged_right(rows, value))
            right += told
            wrong += not told
        self.assertGreater(min(right, wrong), 100)

    def test_rows_in_another_order(self):
        inner, outer, aside = (1, 2, "box", 4), (0, 4, "top", 5), (4, 5, "egg", 0)
        nesting = ((0, 4, "top", 5, ((1, 2, "box", 4, ()),)), (4, 5, "egg", 0, ()))
        for rows in [(inner, outer, aside), (aside, inner, outer), (inner, aside, outer)]:
            self.assertEqual(nesting_paper(HOUSE, 6, rows), ("nesting", nesting))
            self.assertTrue(shows_nesting(HOUSE, 6, rows, ("nesting", nesting)))
        for rows in [(outer, inner, aside), (aside, outer, inner)]:
            self.assertEqual(nesting_paper(HOUSE, 6, rows)[0], "cross")
            self.assertFalse(shows_nesting(HOUSE, 6, rows, ("nesting", nesting)))

    def test_rows_of_the_same_steps(self):
        first, second = (0, 2, "box", 0), (0, 2, "top", 1)
        self.assertEqual(nesting_paper(HOUSE, 2, (first, second)), ("nesting", ((0, 2, "top", 1, ((0, 2, "box", 0, ()),)),)))
        self.assertEqual(nesting_paper(HOUSE, 2, (second, first)), ("nesting", ((0, 2, "box", 0, ((0, 2, "top", 1, ()),)),)))
        self.assertFalse(shows_nesting(HOUSE, 2, (second, first), nesting_paper(HOUSE, 2, (first, second))))
        three = (first, second, first)
        paper = ("nesting", ((0, 2, "box", 0, ((0, 2, "top", 1, ((0, 2, "box", 0, ()),)),)),))
        self.assertEqual(nesting_paper(HOUSE, 2, three), paper)
        self.assertTrue(shows_nesting(HOUSE, 2, three, paper))
        self.assertFalse(shows_nesting(HOUSE, 2, (first, first, second), paper))
        self.assertFalse(shows_nesting(HOUSE, 2, (first, second), paper))

    def test_rows_that_cross(self):
        rows = ((0, 1, "top", 0), (2, 5, "top", 0), (1, 3, "top", 0), (2, 4, "egg", 0))
        self.assertEqual([pair for pair in itertools.product(range(4), repeat=2)
                          if shows_nesting(HOUSE, 5, rows, ("cross", *pair))], [(1, 2), (1, 3), (2, 3)])
        self.assertEqual(nesting_paper(HOUSE, 5, rows)[0], "cross")

    def test_values_of_every_kind(self):
        inner, outer = (1, 2, "box", 4), (0, 4, "top", 5)
        nesting = ((0, 4, "top", 5, ((1, 2, "box", 4, ()),)),)
        for value in STRAY + [("nesting",), ("nesting", nesting, 0), ["nesting", nesting], ("Nesting", nesting),
                              ("nesting", list(nesting)), nesting, ("nesting", (inner, outer)), ("nesting", ()),
                              ("cross", 0, 1), ("cross", None, 1), (["nesting"], nesting), ("nesting", 0, 1)]:
            self.assertIs(shows_nesting(HOUSE, 6, (inner, outer), value), False)
        for part in STRAY:
            self.assertIs(shows_nesting(HOUSE, 6, (inner, outer), ("nesting", part)), False)
            self.assertIs(shows_nesting(HOUSE, 6, (inner, outer), ("nesting", (part,))), False)
        self.assertIs(shows_nesting(HOUSE, 6, (inner, outer), ("nesting", nesting)), True)
        crossing = ((0, 3, "top", 0), (0, 2, "top", 0))
        self.assertIs(shows_nesting(HOUSE, 6, crossing, ("cross", 0, 1)), True)
        for value in [("cross", 1, 0), ("cross", 0, 0), ("cross", False, True), ("cross", 0, True), ("cross", 0, 2),
                      ("cross", -2, 1), ("cross", 0, -1), ["cross", 0, 1], ("cross", 0), ("cross", 0, 1, 1), ("cross", [0], 1),
                      ("cross", 0, None), ("Cross", 0, 1), ("cross", (0, 1))]:
            self.assertIs(shows_nesting(HOUSE, 6, crossing, value), False)


class WrongNestingsTest(unittest.TestCase, Raising):
    def each(self, house, size, nesting):
        return [lambda: rows_by(house, size, nesting), lambda: caught_in(house, size, nesting, None, None)]

    def each_of_rows(self, house, size, rows):
        return [lambda: nesting_paper(house, size, rows), lambda: shows_nesting(house, size, rows, None)]

    def test_houses_and_sizes(self):
        for value in strays(STRAY[-1]) + [FAMILY]:
            for function in self.each(value, None, None) + self.each_of_rows(value, 6, ()):
                self.raises(NoHouse, function)
        for value in NO_SIZES:
            for function in self.each(HOUSE, value, None) + self.each_of_rows(HOUSE, value, None):
                self.raises(BadSize, function)

    def test_nestings(self):
        good = ((0, 4, "top", 5, ((1, 2, "box", 4, ()),)), (4, 6, "egg", 0, ()))
        self.assertEqual(len(rows_by(HOUSE, 6, good)), 3)
        wrong = [(0, 4, "top", 5, ()), ((0, 4, "top", 5),), ((0, 4, "top", 5, (), ()),), list(good),
                 ((0, 4, "top", 5, []),), ((0, 4, "top", 5, None),), ([0, 4, "top", 5, ()],),
                 ((0, 4, "top", 5, ((1, 5, "box", 4, ()),)),), ((1, 4, "top", 5, ((0, 2, "box", 4, ()),)),),
                 ((0, 4, "top", 5, ()), (3, 6, "egg", 0, ())), ((4, 6, "top", 5, ()), (0, 4, "egg", 0, ())),
                 ((0, 4, "top", 5, ((1, 3, "box", 4, ()), (2, 4, "box", 4, ()))),)]
        for value in wrong + strays(()):
            for function in self.each(HOUSE, 6, value):
                self.raises(BadNesting, function)

    def test_parts_of_tries(self):
        good = ((0, 4, "top", 5, ((1, 3, "box", 4, ()),)), (4, 6, "egg", 0, ()))
        for path in [(0,), (1,), (0, 4, 0)]:
            for part, more in [(0, [7, -1, True]), (1, [7, 0, -1, True, 1]), (2, ["num", "gray", "none", ["box"]]),
                               (3, [6, -1, True])]:
                for value in strays(0) + more:
                    for function in self.each(HOUSE, 6, changed(good, path + (part,), value)):
                        self.raises(BadNesting, function)
        self.raises(BadNesting, rows_by, HOUSE, 5, good)

    def test_steps_and_kinds(self):
        good = ((0, 4, "top", 5, ()),)
        self.strays_raise(BadStep, lambda value: caught_in(HOUSE, 6, good, value, None), STRAY + [6, -1])
        self.strays_raise(BadName, lambda value: caught_in(HOUSE, 6, good, 0, value), STRAY + ["num", "gray"])

    def test_rows(self):
        good = (0, 4, "top", 5)
        for value in NO_TUPLES + [(good,) * 7, [good]]:
            for function in self.each_of_rows(HOUSE, 6, value):
                self.raises(BadRows, function, index=None)
        wrong = [(0, 4, "top", 6), (0, 7, "top", 5), (4, 4, "top", 5), (0, 0, "top", 5), (-1, 4, "top", 5),
                 (False, 4, "top", 5), (0, True, "top", 5), (0, 4, "num", 5), (0, 4, "gray", 5), (0, 4, ["box"], 5),
                 (0, 4, "top", True), (0, 4, "top"), (0, 4, "top", 5, ()), list(good), (0, 4, None, 5), (5, 3, "top", 0),
                 (0, 4, "top", None)]
        for value in wrong + STRAY:
            for function in self.each_of_rows(HOUSE, 6, (good, value, None)):
                self.raises(BadRows, function, index=1)
        self.assertEqual(nesting_paper(HOUSE, 6, (good,) * 6)[0], "nesting")


if __name__ == "__main__":
    unittest.main()
