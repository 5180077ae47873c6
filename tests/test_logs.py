"""Logs of prints: points 1 and 54."""

import itertools
import random
import unittest

from helpers import FAMILY, NO_TUPLES, STRAY, Maker, Raising, family_with, methods_in, strays

from classhouse.errors import BadIns, BadLog, BadName, BadWord, NoHouse, NotSeen, TooLong
from classhouse.houses import House
from classhouse.logs import fits_log, ins_told, nearest_ins
from classhouse.runs import count_steps, prints

NUMBER = ("num",)


def printing(*locals_and_numbers):
    """A code that prints locals, told as "1", and numbers."""
    steps = []
    for value in locals_and_numbers:
        steps.extend([("take", int(value)) if isinstance(value, str) else ("push", value), ("print",)])
    return (*steps, ("push", 0), ("give",))


def prints_or_none(house, name, word, ins):
    try:
        return prints(house, name, word, ins)
    except TooLong:
        return None


def unlike_plainly(printed, log):
    if printed is None or len(printed) != len(log):
        return None
    return sum(entry != "lost" and entry != number for entry, number in zip(log, printed))


def small_plainly(ins):
    return list(itertools.product(*[range(8) if kind == "num" else [None] for kind in ins]))


class PrintMaker(Maker):
    def code(self, house, name, place, most):
        """A code as those of all houses, ahead of which the ins that are numbers are printed."""
        kinds = [row[3][place][1] for row in house.classes if row[0] == name][0]
        ahead = [step for at, kind in enumerate(kinds, start=1) if kind == "num"
                 for step in (("take", at), ("print",))]
        code = super().code(house, name, place, most)
        return (*ahead, *[(step[0], step[1] + len(ahead)) if step[0] in ("go", "if") else step for step in code])


class LogTest(unittest.TestCase, Raising):
    def test_example(self):
        house = House((("box", "top", (), (("show", NUMBER, "num", printing("1", 2), ()),)),))
        self.assertEqual([ins_told(house, "box", "show", (5, "lost")), nearest_ins(house, "box", "show", (9, 2)),
                          fits_log(house, "box", "show", (9,), (9, 2))], [[(5,)], (1, (0,)), True])

    def fits(self, code, ins, log, kinds=None):
        kinds = tuple("num" if isinstance(value, int) else "box" for value in ins) if kinds is None else kinds
        return fits_log(family_with(code, (), kinds), "box", "test", ins, log)

    def told(self, code, kinds, log):
        house = family_with(code, (), kinds)
        return ins_told(house, "box", "test", log), nearest_ins(house, "box", "test", log)

    def test_fits(self):
        code = printing("1", 2, "1")
        for log, fit in [((5, 2, 5), True), ((5, "lost", 5), True), (("lost",) * 3, True), ((5, 2, 4), False),
                         (("lost", 3, "lost"), False), ((5, 2), False), (("lost",) * 2, False), (("lost",) * 4, False),
                         ((), False), ((5, 2, 5, 5), False)]:
            self.assertIs(self.fits(code, (5,), log), fit, log)

    def test_no_entry_and_twelve(self):
        self.assertIs(self.fits(printing(), (), ()), True)
        self.assertIs(self.fits(printing(1), (), ()), False)
        row = tuple(range(8))
        house = House((("box", "top", (), (("test", (), "num", printing(*row), ()),)),))
        self.assertIs(fits_log(house, "box", "test", (), row), True)
        loop = (("push", 7), ("print",), ("take", 1), ("push", 15), ("add",), ("copy",), ("keep", 1), ("if", 0),
                ("push", 1), ("give",))
        for many in (11, 12, 13):
            self.assertIs(self.fits(loop, (many,), (7,) * 12), many == 12)
            self.assertIs(self.fits(loop, (many,), ("lost",) * 11 + (7,)), many == 12)

    def test_any_end_is_an_end(self):
        for code in [(("push", 3), ("print",), ("take", 0), ("throw",)), (("push", 3), ("print",), ("none",), ("throw",)),
                     (("push", 3), ("print",), ("give",)), (("push", 3), ("print",), ("add",), ("give",))]:
            self.assertIs(self.fits(code, (), (3,)), True)
            self.assertEqual(self.told(code, (), (4,)), ([], (1, ())))

    def test_runs_that_do_not_end(self):
        code = (("push", 3), ("print",), ("go", 2))
        self.assertIs(self.fits(code, (), (3,)), False)
        self.assertEqual(self.told(code, (), (3,)), ([], None))
        code = (("push", 3), ("print",), ("go", 0))
        for log in [(), (3,), (3,) * 12]:
            self.assertIs(self.fits(code, (), log), False)
            self.assertEqual(self.told(code, (), log), ([], None))
        # The run ends if the in is 5 alone.
        code = (("take", 1), ("print",), ("take", 1), ("push", 5), ("less",), ("if", 2), ("push", 5), ("take", 1),
                ("less",), ("if", 6), ("push", 1), ("give",))
        self.assertEqual(self.told(code, NUMBER, ("lost",)), ([(5,)], (0, (5,))))
        self.assertEqual(self.told(code, NUMBER, (9,)), ([], (1, (5,))))

    def test_just_2000_steps(self):
        inner = (("take", 2), ("push", 1), ("add",), ("copy",), ("keep", 2), ("none",), ("drop",), ("if", 0))
        outer = (("take", 1), ("push", 1), ("add",), ("copy",), ("keep", 1), ("if", 0))
        count = ("count", ("num", "num"), "num", inner + outer + (("push", 1), ("give",)), ())
        for gos, steps in [(7, 2000), (8, 2001)]:
            code = tuple(("go", at + 1) for at in range(gos)) + (
                ("take", 0), ("take", 1), ("push", 3), ("call", "box", "count"), ("give",))
            house = House((("box", "top", (), (count, ("test", NUMBER, "num", code, ()))),))
            self.assertIs(fits_log(house, "box", "test", (1,), ()), steps == 2000)
            told = [(value,) for value in range(8) if value > 1 or value == 1 and steps == 2000]
            self.assertEqual(ins_told(house, "box", "test", ()), told)
            self.assertEqual(nearest_ins(house, "box", "test", ()), (0, told[0]))
            if steps == 2000:
                self.assertEqual(count_steps(house, "box", "test", (1,)), 2000)
            else:
                self.raises(TooLong, count_steps, house, "box", "test", (1,), most=2000)

    def test_small_ins_in_their_order(self):
        code = printing("1", "2")
        self.assertEqual(self.told(code, ("num", "num"), ("lost", "lost"))[0], small_plainly(("num", "num")))
        self.assertEqual(self.told(code, ("num", "num"), ("lost", 3)),
                         ([(value, 3) for value in range(8)], (0, (0, 3))))
        self.assertEqual(self.told(printing("1", "3"), ("num", "red", "num"), (4, "lost")),
                         ([(4, None, value) for value in range(8)], (0, (4, None, 0))))
        self.assertEqual(self.told(printing(1), ("box", "top"), (1,)), ([(None, None)], (0, (None, None))))
        self.assertEqual(self.told(printing(1), (), (1,)), ([()], (0, ())))

    def test_ins_that_are_not_small(self):
        self.assertEqual(self.told(printing("1"), NUMBER, (8,)), ([], (1, (0,))))
        self.assertIs(self.fits(printing("1"), (8,), (8,)), True)
        code = (("take", 1), ("is", "box"), ("print",), ("push", 0), ("give",))
        self.assertEqual(self.told(code, ("box",), (1,)), ([], (1, (None,))))
        self.assertIs(self.fits(code, (("thing", 0),), (1,), ("box",)), True)

    def test_the_nearest_of_several(self):
        code = printing("1", "1", "2")
        self.assertEqual(self.told(code, ("num", "num"), (3, 5, 9)), ([], (2, (3, 0))))
        self.assertEqual(self.told(code, ("num", "num"), (5, 3, "lost")), ([], (1, (3, 0))))
        self.assertEqual(self.told(code, ("num", "num"), (9, 9, 9)), ([], (3, (0, 0))))
        self.assertEqual(self.told(code, ("num", "num"), (9, 6, 2)), ([], (1, (6, 2))))
        self.assertEqual(self.told(code, ("num", "num"), (1, 1)), ([], None))

    def test_by_chance(self):
        fitting = near = 0
        for seed in range(120):
            house = PrintMaker(seed).house(10)
            chance = random.Random(seed)
            for name, place in methods_in(house):
                word, kinds = [row[3][place][:2] for row in house.classes if row[0] == name][0]
                rows = [(ins, prints_or_none(house, name, word, ins)) for ins in small_plainly(kinds)]
                log = chance.choice([printed for _, printed in rows if printed] or [()])
                log = tuple(chance.choice([entry, entry, entry, "lost", 3, 12]) for entry in log[:12])
                pairs = [(unlike_plainly(printed, log), ins) for ins, printed in rows]
                told = [ins for many, ins in pairs if many == 0]
                self.assertEqual(ins_told(house, name, word, log), told)
                best = min((many for many, _ in pairs if many is not None), default=None)
                nearest = None if best is None else (best, [ins for many, ins in pairs if many == best][0])
                self.assertEqual(nearest_ins(house, name, word, log), nearest)
                for many, ins in pairs[::5]:
                    self.assertIs(fits_log(house, name, word, ins, log), many == 0)
                fitting += log != () and told != [] and len(told) < len(rows)
                near += best not in (None, 0)
        self.assertGreater(fitting, 20)
        self.assertGreater(near, 20)


class WrongTest(unittest.TestCase, Raising):
    def test_logs(self):
        functions = [lambda log: fits_log(House(FAMILY), "box", "hop", (1, None), log),
                     lambda log: ins_told(House(FAMILY), "box", "hop", log),
                     lambda log: nearest_ins(House(FAMILY), "box", "hop", log)]
        for function in functions:
            for value in NO_TUPLES + ["lost", [1, 2], ("lost",) * 13, (None,) * 13]:
                self.raises(BadLog, function, value, index=None)
            for value in strays() + [16, -1, True, False, "Lost", "none", ("lost",), ["lost"], (1,), "1"]:
                self.raises(BadLog, function, (value,), index=0)
                self.raises(BadLog, function, (1, "lost", value, None), index=2)
            self.assertIn(function((15, "lost", 0) * 4), (False, [], None))

    def test_the_other_arguments(self):
        house = House(FAMILY)
        for function in (ins_told, nearest_ins, lambda *args: fits_log(*args[:3], None, args[3])):
            for value in strays(STRAY[-1]) + [FAMILY]:
                self.raises(NoHouse, function, value, None, None, None)
            for value in strays() + ["num", "gray"]:
                self.raises(BadName, function, house, value, None, None)
            for value in [None, 1, "Show", "", "sevenly", ["show"], ("show",), True]:
                self.raises(BadWord, function, house, "box", value, None)
            for name, word in [("box", "roll"), ("egg", "show"), ("top", "show"), ("box", "x")]:
                self.raises(NotSeen, function, house, name, word, None)
        for value in strays() + [(1,), (None, None), (1, 1), (True, None), (16, None), (1, ("thing", 1)), [1, None]]:
            self.raises(BadIns, fits_log, house, "box", "hop", value, None)

    def test_lists_are_new(self):
        house = family_with(printing("1"), (), NUMBER)
        ins_told(house, "box", "test", (3,)).append(1)
        self.assertEqual(ins_told(house, "box", "test", (3,)), [(3,)])


if __name__ == "__main__":
    unittest.main()
