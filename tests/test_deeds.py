"""Deeds with tries and lasts, and their houses: points 1 and 36."""

import itertools
import random
import unittest

from helpers import NO_TUPLES, STRAY, Raising, changed, strays

from classhouse.deeds import deeds_end, deeds_house, last_counts, steps_needed
from classhouse.errors import BadDeeds, BadIns, TooMany
from classhouse.houses import House
from classhouse.kinds import upward
from classhouse.runs import prints, run

ALL_INS = list(itertools.product((0, 1), repeat=3))
BELOW = {"egg": ("egg", "red"), "red": ("red",), "box": ("box",)}
PRINT = ("print", 5)
NO_INS = [(0, 0), (0, 0, 0, 0), [0, 0, 0], (0, 0, 16), (0, -1, 0), (True, 0, 0), (0, None, 0), (0, (0,), 0), ("0", 0, 0)]


class Thrown(Exception):
    pass


class Given(Exception):
    pass


def do_plainly(deeds, ins, printed, counts, path=()):
    """Does deeds by what Python does; counts is told by where the lasts stand."""
    for at, deed in enumerate(deeds):
        here = path + (at,)
        if deed[0] == "print":
            printed.append(deed[1])
        elif deed[0] == "throw":
            raise Thrown(deed[1])
        elif deed[0] == "give":
            raise Given(deed[1])
        elif deed[0] == "if" and ins[deed[1] - 1]:
            do_plainly(deed[2], ins, printed, counts, here + (0,))
        elif deed[0] == "if":
            do_plainly(deed[3], ins, printed, counts, here + (1,))
        elif deed[0] == "try":
            try:
                do_plainly(deed[1], ins, printed, counts, here + (0,))
            except Thrown as error:
                if error.args[0] not in BELOW[deed[2]]:
                    raise
                do_plainly(deed[3], ins, printed, counts, here + (1,))
        else:
            try:
                do_plainly(deed[1], ins, printed, counts, here + (0,))
            finally:
                counts[here] = counts.get(here, 0) + 1
                do_plainly(deed[2], ins, printed, counts, here + (1,))


def lasts_in(deeds, path=()):
    """Where the lasts stand, one ahead of those in it."""
    found = []
    for at, deed in enumerate(deeds):
        if deed[0] == "last":
            found.append(path + (at,))
        parts = [part for part in deed[1:] if isinstance(part, tuple)]
        for number, part in enumerate(parts):
            found.extend(lasts_in(part, path + (at, number)))
    return found


def told_plainly(deeds, ins):
    printed, counts = [], {}
    try:
        do_plainly(deeds, ins, printed, counts)
        end = ("gives", 0)
    except Thrown as error:
        end = ("throws", error.args[0])
    except Given as error:
        end = ("gives", error.args[0])
    return (end, tuple(printed)), tuple(counts.get(path, 0) for path in lasts_in(deeds))


def any_deeds(chance, depth, words, most=3):
    return tuple(any_deed(chance, depth, words) for _ in range(chance.randint(0, most)))


def any_deed(chance, depth, words):
    word = chance.choice(words if depth < 4 else [word for word in words if word in ("print", "throw", "give")])
    if word in ("print", "give"):
        return (word, chance.randint(0, 15))
    if word == "throw":
        return (word, chance.choice(["egg", "red", "box"]))
    if word == "if":
        return (word, chance.randint(1, 3), any_deeds(chance, depth + 1, words, 2), any_deeds(chance, depth + 1, words, 1))
    body = any_deeds(chance, depth + 1, words, 2)
    if word == "try":
        return (word, body, chance.choice(["egg", "red", "box"]), any_deeds(chance, depth + 1, words, 1))
    return (word, body, any_deeds(chance, depth + 1, ["print", "print", "if"], 1))


def some_deeds(seed):
    chance = random.Random(seed)
    return any_deeds(chance, 1, ["print", "throw", "give", "if", "try", "try", "last", "last"])


class DeedsEndTest(unittest.TestCase, Raising):
    def test_example(self):
        deeds = (("last", (("if", 1, (("give", 7),), (("throw", "red"),)),), (("print", 9),)),)
        self.assertEqual([deeds_end(deeds, (1, 0, 0)), deeds_end(deeds, (0, 0, 0)), last_counts(deeds, (1, 0, 0)),
                          steps_needed(deeds)], [(("gives", 7), (9,)), (("throws", "red"), (9,)), (1,), 17])
        self.assertEqual([run(deeds_house(deeds), "hub", "main", (1, 0, 0)),
                          prints(deeds_house(deeds), "hub", "main", (0, 0, 0))], [("gives", 7), (9,)])

    def check(self, deeds, ins, end, printed=(), counts=()):
        self.assertEqual(deeds_end(deeds, ins), (end, printed))
        self.assertEqual(last_counts(deeds, ins), counts)

    def test_each_deed(self):
        self.check((), (0, 0, 0), ("gives", 0))
        self.check((PRINT, ("print", 0), ("print", 15)), (0, 0, 0), ("gives", 0), (5, 0, 15))
        self.check((PRINT, ("throw", "box"), PRINT), (0, 0, 0), ("throws", "box"), (5,))
        self.check((PRINT, ("give", 3), PRINT), (0, 0, 0), ("gives", 3), (5,))
        deeds = tuple(("if", at, (("print", at),), (("print", at + 10),)) for at in (1, 2, 3))
        self.check(deeds, (0, 15, 1), ("gives", 0), (11, 2, 3))
        self.check(deeds, (1, 0, 0), ("gives", 0), (1, 12, 13))

    def test_tries_catch_what_is_of_the_class_or_below(self):
        for caught, thrown, is_caught in [("egg", "egg", True), ("egg", "red", True), ("red", "egg", False),
                                          ("red", "red", True), ("box", "egg", False), ("box", "box", True),
                                          ("egg", "box", False), ("red", "box", False), ("box", "red", False)]:
            deeds = (("try", (PRINT, ("throw", thrown), PRINT), caught, (("print", 1),)), ("print", 2))
            if is_caught:
                self.check(deeds, (0, 0, 0), ("gives", 0), (5, 1, 2))
            else:
                self.check(deeds, (0, 0, 0), ("throws", thrown), (5,))

    def test_tries_that_catch_nothing(self):
        self.check((("try", (PRINT,), "egg", (("print", 1),)),), (0, 0, 0), ("gives", 0), (5,))
        self.check((("try", (("give", 2),), "egg", (("print", 1),)), PRINT), (0, 0, 0), ("gives", 2))
        self.check((("try", (), "egg", (("print", 1),)), PRINT), (0, 0, 0), ("gives", 0), (5,))

    def test_what_is_thrown_in_other_goes_on(self):
        inner = ("try", (("throw", "egg"),), "egg", (("throw", "red"),))
        self.check((inner,), (0, 0, 0), ("throws", "red"))
        self.check((("try", (inner, PRINT), "red", (("print", 1),)),), (0, 0, 0), ("gives", 0), (1,))

    def test_lasts_do_more_however_their_deeds_end(self):
        for body, end in [((), ("gives", 0)), ((("give", 4),), ("gives", 4)), ((("throw", "box"),), ("throws", "box"))]:
            self.check((("last", body, (("print", 1),)),), (0, 0, 0), end, (1,), (1,))
        self.check((("last", (("give", 4),), (("if", 2, (("print", 1),), ()), ("print", 3))), PRINT), (0, 1, 0),
                   ("gives", 4), (1, 3), (1,))

    def test_lasts_and_tries_within_one_another(self):
        deeds = (("try", (("last", (("throw", "red"),), (("print", 1),)),), "egg", (("print", 2),)), PRINT)
        self.check(deeds, (0, 0, 0), ("gives", 0), (1, 2, 5), (1,))
        deeds = (("last", (("try", (("throw", "red"),), "egg", (("give", 6),)), PRINT), (("print", 1),)), PRINT)
        self.check(deeds, (0, 0, 0), ("gives", 6), (1,), (1,))
        deeds = (("last", (("last", (("last", (("give", 6),), (("print", 1),)),), (("print", 2),)), PRINT), (("print", 3),)),)
        self.check(deeds, (0, 0, 0), ("gives", 6), (1, 2, 3), (1, 1, 1))

    def test_lasts_are_counted_those_ahead_first_one_ahead_of_those_in_it(self):
        leaf = ("last", (), (PRINT,))
        deeds = (("last", (leaf, ("if", 1, (leaf, ("throw", "egg")), (leaf,)), leaf), ()),
                 ("try", (leaf,), "egg", (leaf,)), leaf)
        self.check(deeds, (1, 0, 0), ("throws", "egg"), (5, 5), (1, 1, 1, 0, 0, 0, 0, 0))
        self.check(deeds, (0, 0, 0), ("gives", 0), (5,) * 5, (1, 1, 0, 1, 1, 1, 0, 1))
        self.assertEqual(last_counts((PRINT,), (0, 0, 0)), ())
        deeds = (("try", (leaf, ("if", 1, (leaf, ("throw", "red")), (leaf,)), leaf), "egg", (leaf, ("give", 1), leaf)), leaf)
        self.check(deeds, (1, 0, 0), ("gives", 1), (5, 5, 5), (1, 1, 0, 0, 1, 0, 0))
        self.check(deeds, (0, 0, 0), ("gives", 0), (5, 5, 5, 5), (1, 0, 1, 1, 0, 0, 1))

    def test_made_deeds_by_another_way(self):
        for seed in range(600):
            deeds = some_deeds(seed)
            for ins in ALL_INS:
                end, counts = told_plainly(deeds, ins)
                self.assertEqual(deeds_end(deeds, ins), end)
                self.assertEqual(last_counts(deeds, ins), counts)

    def test_wrong_ins(self):
        for value in STRAY + NO_INS:
            self.raises(BadIns, deeds_end, (PRINT,), value)
            self.raises(BadIns, last_counts, (PRINT,), value)
        self.assertEqual(deeds_end((PRINT,), (0, 15, 7)), (("gives", 0), (5,)))


class DeedsHouseTest(unittest.TestCase, Raising):
    def check(self, deeds, steps, rows):
        """Looks at the house of deeds, which has just so many steps and rows of handlers."""
        self.assertEqual(steps_needed(deeds), steps)
        house = deeds_house(deeds)
        hub = [row for row in house.classes if row[0] == "hub"][0]
        main = [method for method in hub[3] if method[0] == "main"][0]
        self.assertEqual(main[1:3], (("num",) * 3, "num"))
        self.assertLessEqual(len(main[3]), steps)
        self.assertLessEqual(len(main[4]), rows)
        self.assertEqual([upward(house, name) for name in ("egg", "red", "box")],
                         [("egg", "top"), ("red", "egg", "top"), ("box", "top")])
        for ins in ALL_INS:
            self.assertEqual((run(house, "hub", "main", ins), prints(house, "hub", "main", ins)), deeds_end(deeds, ins))

    def test_each_deed(self):
        self.check((), 2, 0)
        self.check((PRINT,), 4, 0)
        self.check((("throw", "red"),), 4, 0)
        self.check((("give", 15),), 4, 0)
        self.check((("if", 3, (PRINT,), (("give", 1),)),), 9, 0)
        self.check((("if", 3, (), ()),), 5, 0)
        self.check((("try", (("throw", "red"),), "egg", (PRINT,)),), 8, 1)
        self.check((("last", (("throw", "red"),), (PRINT,)),), 10, 1)
        self.check((("last", (PRINT,), ()),), 6, 1)

    def test_gives_do_the_more_of_all_lasts_around_them(self):
        self.check((("last", (("last", (("give", 6),), (("print", 1),)),), (("print", 2),)),), 20, 2)
        self.check((("last", (("try", (("give", 6),), "egg", ()),), (("print", 2),)),), 14, 2)
        self.check((("last", (("try", (("throw", "egg"),), "egg", (("give", 6),)),), (("print", 2),)),), 16, 2)

    def test_deeds_that_need_nothing(self):
        self.check((("try", (), "egg", (PRINT,) * 6),), 2, 0)
        self.check((("last", (), (PRINT,)),), 4, 0)
        self.check((("last", (("try", (), "egg", (PRINT,)),), (PRINT,)),), 4, 0)
        self.check((("last", (("last", (), ()),), ()),), 2, 0)
        self.check((("try", (("last", (("try", (), "box", (PRINT,)),), ()),), "egg", (PRINT,)),), 2, 0)
        self.check((("try", (("last", (), (PRINT,)),), "egg", (PRINT,)),), 8, 1)
        self.check((("try", (("if", 1, (), ()),), "egg", ()),), 7, 1)

    def test_twenty_steps_and_more(self):
        self.check((PRINT,) * 5 + (("if", 1, (PRINT,), (("give", 1),)),), 19, 0)
        self.check((PRINT,) * 4 + (("if", 1, (("throw", "red"),), (("give", 1),)), ("last", (), (("print", 3),))), 19, 0)
        self.check((PRINT,) * 5 + (("last", (("print", 1),) * 3, ()),), 20, 1)
        for deeds, many in [((PRINT,) * 3 + (("if", 1, (PRINT,) * 5, ()),), 21), ((PRINT,) * 5 + (("last", (PRINT,) * 4, ()),), 22),
                            ((("last", (("give", 1), ("give", 2)), (PRINT, PRINT)),), 24)]:
            self.assertEqual(steps_needed(deeds), many)
            self.raises(TooMany, deeds_house, deeds, most=20)

    def test_four_handlers_and_five(self):
        three = ("try", (("try", (("try", (("throw", "red"),), "box", ()),), "red", ()),), "egg", ())
        one = ("try", (("throw", "box"),), "box", ())
        self.check((three, one), 14, 4)
        two = ("last", (one,), ())
        self.assertEqual(steps_needed((three, two)), 16)
        self.raises(TooMany, deeds_house, (three, two), most=4)
        self.check((three, ("last", (), ()), ("try", (), "egg", (two, two)), one), 14, 4)
        self.check((("if", 1, (("last", (("last", (PRINT,), ()),), ()),), ()), ("try", (("if", 2, (), ()), one), "egg", ())), 20, 4)
        other = ("try", (PRINT,), "egg", (("last", (("print", 1),), ()), one))
        self.assertEqual(steps_needed((other, ("last", (one,), ()))), 20)
        self.raises(TooMany, deeds_house, (other, ("last", (one,), ())), most=4)

    def test_handlers_in_ifs_are_counted(self):
        three = ("try", (("try", (("try", (("throw", "red"),), "box", ()),), "red", ()),), "egg", ())
        one = ("try", (("throw", "box"),), "box", ())
        for part in [(one,), (("last", (one,), ()),)]:
            for deeds in [(three, ("if", 1, part, ())), (three, ("if", 1, (), part)), (("if", 1, part, ()), three)]:
                if part == (one,):
                    self.check(deeds, 17, 4)
                else:
                    self.assertEqual(steps_needed(deeds), 19)
                    self.raises(TooMany, deeds_house, deeds, most=4)

    def test_both_too_many(self):
        three = ("try", (("try", (("try", (("throw", "red"),), "box", ()),), "red", ()),), "egg", ())
        self.raises(TooMany, deeds_house, (three, three), most=4)
        self.assertEqual(steps_needed((three, three)), 18)
        self.raises(TooMany, deeds_house, (three, three, PRINT, PRINT), most=20)

    def test_made_deeds(self):
        told = {"house": 0, 20: 0, 4: 0}
        for seed in range(3000):
            deeds = some_deeds(seed)
            steps, rows = needs_plainly(deeds, [])
            self.assertEqual(steps_needed(deeds), steps + 2)
            if steps > 18 or rows > 4:
                most = 20 if steps > 18 else 4
                told[most] += 1
                self.raises(TooMany, deeds_house, deeds, most=most)
            else:
                told["house"] += 1
                self.check(deeds, steps + 2, rows)
        self.assertGreater(min(told["house"], told[20]), 500)


def needs_plainly(deeds, mores):
    """How many steps and how many rows deeds need, mores being what those of the lasts around them need."""
    steps = rows = 0
    for deed in deeds:
        if deed[0] == "last":
            more, body = needs_plainly(deed[2], [])[0], needs_plainly(deed[1], mores + [needs_plainly(deed[2], [])[0]])
            steps += more if body[0] == 0 else 2 + body[0] + 2 * more
            rows += 0 if body[0] == 0 else 1 + body[1]
        elif deed[0] == "try":
            body, other = needs_plainly(deed[1], mores), needs_plainly(deed[3], mores)
            steps += 0 if body[0] == 0 else 2 + body[0] + other[0]
            rows += 0 if body[0] == 0 else 1 + body[1] + other[1]
        elif deed[0] == "if":
            both = [needs_plainly(part, mores) for part in deed[2:]]
            steps += 3 + both[0][0] + both[1][0]
            rows += both[0][1] + both[1][1]
        else:
            steps += 2 + (sum(mores) if deed[0] == "give" else 0)
    return steps, rows


class WrongDeedsTest(unittest.TestCase, Raising):
    def wrong(self, value):
        self.raises(BadDeeds, deeds_end, value, None)
        self.raises(BadDeeds, last_counts, value, None)
        self.raises(BadDeeds, deeds_house, value)
        self.raises(BadDeeds, steps_needed, value)

    def test_what_is_no_tuple_of_deeds(self):
        for value in NO_TUPLES + [[PRINT], (PRINT,) * 7, PRINT, (PRINT, None), ((),), (("print",),), (("print", 1, 2),)]:
            self.wrong(value)
        for value in STRAY:
            self.wrong((PRINT, value))
            self.wrong((("if", 1, (value,), ()),))
        steps_needed((PRINT,) * 6)

    def test_parts(self):
        whole = (("print", 0), ("throw", "egg"), ("give", 15), ("if", 1, (), ()), ("try", (), "box", ()), ("last", (), ()))
        self.assertEqual(steps_needed(whole), 11)
        for path, more in [((0, 1), [16, -1]), ((1, 1), ["top", "hub", "num", ["egg"]]), ((2, 1), [16, -1]),
                           ((3, 1), [0, 4, -1]), ((3, 2), [[], PRINT]), ((3, 3), [[]]), ((4, 1), [[]]),
                           ((4, 2), ["top", "hub", "none"]), ((4, 3), [[]]), ((5, 1), [[]]), ((5, 2), [[]])]:
            for value in strays(()) + more:
                self.wrong(changed(whole, path, value))
        for at, deed in enumerate(whole):
            for value in ["Print", "prints", "", None, ["print"], 1]:
                self.wrong(changed(whole, (at, 0), value))
            self.wrong(changed(whole, (at,), list(deed)))
            self.wrong(changed(whole, (at,), deed[:-1]))
            self.wrong(changed(whole, (at,), deed + ((),)))

    def test_how_deep_deeds_stand(self):
        for word in ("if", "try", "last"):
            deeds = (PRINT,)
            for _ in range(3):
                deeds = {"if": (("if", 1, (), deeds),), "try": (("try", deeds, "egg", ()),),
                         "last": (("last", deeds, ()),)}[word]
            self.assertEqual(deeds_end(deeds, (0, 0, 0)), (("gives", 0), (5,)))
            for deeper in [(("if", 1, deeds, ()),), (("if", 1, (), deeds),), (("try", deeds, "egg", ()),),
                           (("try", (), "egg", deeds),), (("last", deeds, ()),)]:
                self.wrong(deeper)
        empty = ()
        for _ in range(3):
            empty = (("if", 1, empty, ()),)
        self.assertEqual(steps_needed(empty), 11)
        self.wrong((("if", 1, empty, ()),))

    def test_more_stands_in_deeds_too(self):
        more = (("if", 1, (("if", 2, (PRINT,), ()),), ()),)
        self.assertEqual(deeds_end((("last", (), more),), (1, 1, 0)), (("gives", 0), (5,)))
        self.wrong((("last", (), (("if", 1, more, ()),)),))
        self.wrong((("try", (("last", (), more),), "egg", ()),))

    def test_more_has_prints_and_ifs_alone(self):
        for deed in [("give", 1), ("throw", "egg"), ("try", (), "egg", ()), ("last", (), ())]:
            self.wrong((("last", (), (deed,)),))
            self.wrong((("last", (), (("if", 1, (), (deed,)),)),))
            self.wrong((("last", (), (("if", 1, (("if", 1, (deed,), ()),), ()),)),))
            steps_needed((("last", (deed,), (PRINT,)),))

    def test_a_house_is_made(self):
        self.assertIsInstance(deeds_house(()), House)
        self.assertEqual(deeds_house((PRINT,)), deeds_house((PRINT,)))


if __name__ == "__main__":
    unittest.main()
