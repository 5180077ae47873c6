"""Passes over codes: points 1, 47 and 48."""

import unittest

from helpers import FAMILY, STRAY, Maker, Raising, changed, family_with, methods_in, place_of_test, strays

from classhouse.checker import not_let
from classhouse.errors import BadCode, BadHandlers, BadName, BadPass, BadPlace, NoHouse, TooLong
from classhouse.houses import House
from classhouse.passes import cleaned, passed, with_code
from classhouse.runs import count_steps, heap_behind, held_behind, prints, run, things_of

WORDS = ("jumps", "reach", "numbers", "pairs")


def method_of(house, name, place):
    return [row[3][place] for row in house.classes if row[0] == name][0]


def mended(word, code, handlers=()):
    """The code and the handlers behind a pass, or behind all if the word is "all"."""
    house = family_with(code, handlers)
    place = place_of_test(house)
    made = cleaned(house, "box", place) if word == "all" else passed(house, "box", place, word)
    method = method_of(made, "box", place)
    if made != with_code(house, "box", place, *method[3:]):
        raise AssertionError("something else is changed")
    return method[3:]


def codes(text):
    """A code told as "push 1; go 0"."""
    steps = [part.split() for part in text.split(";")]
    return tuple(tuple(int(part) if part.isdigit() else part for part in step) for step in steps)


class Labelled:
    """A code whose steps have labels instead of places, and whose handlers tell the labels that they cover."""

    def __init__(self, code, handlers):
        self.steps = [[at, step[0], step[1:]] for at, step in enumerate(code)]
        self.rows = [[set(range(row[0], row[1])), row[2], row[3]] for row in handlers]

    def goals(self):
        return {step[2][0] for step in self.steps if step[1] in ("go", "if")} | {row[2] for row in self.rows}

    def told(self):
        places = {step[0]: at for at, step in enumerate(self.steps)}
        code = tuple((word, places[parts[0]]) if word in ("go", "if") else (word, *parts)
                     for _, word, parts in self.steps)
        rows = []
        for labels, name, goal in self.rows:
            covered = sorted(places[label] for label in labels)
            if covered:
                rows.append((covered[0], covered[-1] + 1, name, places[goal]))
        return code, tuple(rows)

    def jumps(self):
        table = {label: parts[0] for label, word, parts in self.steps if word == "go"}

        def past(goal):
            row = [goal]
            while row[-1] in table:
                if table[row[-1]] in row:
                    return goal
                row.append(table[row[-1]])
            return row[-1]

        for step in self.steps:
            if step[1] in ("go", "if"):
                step[2] = (past(step[2][0]),)
        for row in self.rows:
            row[2] = past(row[2])

    def reach(self):
        order = [step[0] for step in self.steps]
        reached = {order[0]}
        while True:
            more = set(reached)
            for label, word, parts in self.steps:
                if label in reached:
                    more |= {parts[0]} if word in ("go", "if") else set()
                    more |= set() if word in ("go", "give", "throw") else {order[order.index(label) + 1]}
                    more |= {row[2] for row in self.rows if label in row[0]}
            if more == reached:
                break
            reached = more
        self.steps = [step for step in self.steps if step[0] in reached]
        self.rows = [[row[0] & reached, *row[1:]] for row in self.rows if row[0] & reached]

    def is_free(self, labels):
        return not set(labels[1:]) & self.goals() and all(
            set(labels) <= row[0] or not set(labels) & row[0] for row in self.rows)

    def numbers(self):
        for at in range(len(self.steps) - 2):
            (label, one, first), (_, two, second), (_, word, _) = rows = self.steps[at:at + 3]
            if (one, two) == ("push", "push") and word in ("add", "less") and self.is_free([row[0] for row in rows]):
                number = (first[0] + second[0]) % 16 if word == "add" else int(first[0] < second[0])
                self.steps[at:at + 3] = [[label, "push", (number,)]]
                for row in self.rows:
                    row[0] -= {rows[1][0], rows[2][0]}
                return self.numbers()

    def pairs(self):
        for at in range(len(self.steps) - 2):
            (one, word, _), (two, other, _) = self.steps[at:at + 2]
            if word in ("push", "none", "take", "copy") and other == "drop" and self.is_free([one, two]):
                behind = self.steps[at + 2][0]
                self.steps[at:at + 2] = []
                for step in self.steps:
                    if step[1] in ("go", "if") and step[2][0] == one:
                        step[2] = (behind,)
                for row in self.rows:
                    row[0] -= {one, two}
                    row[2] = behind if row[2] == one else row[2]
                self.rows = [row for row in self.rows if row[0]]
                return self.pairs()


def mended_plainly(words, code, handlers):
    for word in words:
        labelled = Labelled(code, handlers)
        getattr(labelled, word)()
        code, handlers = labelled.told()
    return code, handlers


class WithCodeTest(unittest.TestCase, Raising):
    def test_another_code(self):
        house = House(FAMILY)
        code, rows = (("none",), ("throw",)), ((0, 2, "red", 1),)
        made = with_code(house, "box", 1, code, rows)
        self.assertEqual(made.classes, changed(changed(FAMILY, (0, 3, 1, 3), code), (0, 3, 1, 4), rows))
        self.assertEqual(house.classes, FAMILY)
        self.assertTrue(with_code(house, "box", 1, *FAMILY[0][3][1][3:]) == house)

    def test_what_house_refuses(self):
        house = House(FAMILY)
        give = (("push", 1), ("give",))
        for value in strays():
            self.raises(BadCode, with_code, house, "blue", 0, value, None, index=2, place=0,
                        step=0 if isinstance(value, tuple) and value else None)
            self.raises(BadCode, with_code, house, "blue", 0, (("none",), value, ("give",)), None, index=2, place=0,
                        step=1)
            self.raises(BadHandlers, with_code, house, "red", 0, give, (value,), index=1, place=0, row=0)
        for value in strays(()):
            self.raises(BadHandlers, with_code, house, "red", 0, give, value, index=1, place=0,
                        row=0 if isinstance(value, tuple) else None)
        self.raises(BadCode, with_code, house, "pink", 0, (("go", 1),), (), index=3, place=0, step=0)
        self.raises(BadCode, with_code, house, "pink", 0, (("push", 1),), (), index=3, place=0, step=0)
        self.raises(BadCode, with_code, house, "box", 1, (("none",),) * 20 + (("give",),), (), index=0, place=1, step=None)
        self.raises(BadHandlers, with_code, house, "box", 1, give, ((0, 3, "top", 0),), index=0, place=1, row=0)

    def test_wrong_names_and_places(self):
        for function in (lambda *args: with_code(*args, None, None), lambda *args: passed(*args, "jump"), cleaned):
            for value in strays(STRAY[-1]) + [FAMILY]:
                self.raises(NoHouse, function, value, None, None)
            for value in strays() + ["num", "gray"]:
                self.raises(BadName, function, House(FAMILY), value, None)
            for value in strays() + [2, -1, "show"]:
                self.raises(BadPlace, function, House(FAMILY), "box", value)
            for value in (0, None, False):
                self.raises(BadPlace, function, House(FAMILY), "top", value)
                self.raises(BadPlace, function, House(FAMILY), "egg", value)
            self.raises(BadPlace, function, House(FAMILY), "box", True)

    def test_wrong_passes(self):
        for value in strays() + ["jump", "Jumps", "all", "give", "jumps ", ("jumps",), ["jumps"]]:
            self.raises(BadPass, passed, House(FAMILY), "box", 0, value)


class JumpsTest(unittest.TestCase):
    def test_gos_in_a_row(self):
        code = codes("go 2; give; go 4; give; go 1")
        self.assertEqual(mended("jumps", code), (codes("go 1; give; go 1; give; go 1"), ()))

    def test_ifs_and_handlers(self):
        code = codes("push 1; if 3; give; go 5; give; go 2")
        self.assertEqual(mended("jumps", code, ((0, 2, "top", 3), (1, 2, "box", 4), (3, 5, "red", 5))),
                         (codes("push 1; if 2; give; go 2; give; go 2"), ((0, 2, "top", 2), (1, 2, "box", 4),
                                                                          (3, 5, "red", 2))))

    def test_rings_stay(self):
        for text in ["go 0", "go 1; go 0", "push 1; if 2; go 3; go 4; go 2"]:
            self.assertEqual(mended("jumps", codes(text)), (codes(text), ()))
        code = codes("go 2; give; go 3; go 2")
        self.assertEqual(mended("jumps", code, ((0, 1, "top", 0), (0, 1, "top", 3))),
                         (code, ((0, 1, "top", 0), (0, 1, "top", 3))))

    def test_a_ring_beside_a_row(self):
        self.assertEqual(mended("jumps", codes("push 1; if 3; go 5; go 4; go 4; go 6; give")),
                         (codes("push 1; if 3; go 6; go 4; go 4; go 6; give"), ()))

    def test_ifs_are_not_gone_through(self):
        code = codes("go 2; give; if 1; give")
        self.assertEqual(mended("jumps", code), (code, ()))


class ReachTest(unittest.TestCase):
    def test_steps_ahead_between_and_behind(self):
        self.assertEqual(mended("reach", codes("go 3; push 1; drop; push 2; go 7; print; none; give; push 1; give")),
                         (codes("go 1; push 2; go 3; give"), ()))
        self.assertEqual(mended("reach", codes("push 1; give; go 0")), (codes("push 1; give"), ()))
        self.assertEqual(mended("reach", codes("push 1; throw; give")), (codes("push 1; throw"), ()))

    def test_all_in_reach(self):
        code = codes("push 1; if 0; push 2; give")
        self.assertEqual(mended("reach", code, ((0, 4, "top", 0),)), (code, ((0, 4, "top", 0),)))

    def test_goals_of_handlers(self):
        code = codes("push 1; give; none; drop; go 0; none; throw")
        self.assertEqual(mended("reach", code, ((0, 1, "top", 2), (4, 5, "egg", 5))),
                         (codes("push 1; give; none; drop; go 0; none; throw"), ((0, 1, "top", 2), (4, 5, "egg", 5))))
        # The handler's steps themselves are out of reach.
        self.assertEqual(mended("reach", code, ((2, 3, "top", 5),)), (codes("push 1; give"), ()))

    def test_handlers_cover_just_what_they_covered(self):
        code = codes("push 1; go 4; none; drop; push 2; give; none; none; throw")
        self.assertEqual(mended("reach", code, ((6, 9, "top", 2), (0, 8, "top", 5))),
                         (codes("push 1; go 2; push 2; give"), ((0, 4, "top", 3),)))
        rows = ((2, 4, "top", 0), (3, 5, "box", 5), (1, 3, "red", 1), (5, 9, "egg", 0))
        self.assertEqual(mended("reach", code, rows),
                         (codes("push 1; go 2; push 2; give"), ((2, 3, "box", 3), (1, 2, "red", 1), (3, 4, "egg", 0))))

    def test_steps_reached_by_a_handler_of_a_reached_step(self):
        code = codes("go 0; push 1; give; none; throw; push 3; give")
        self.assertEqual(mended("reach", code, ((0, 1, "top", 3), (4, 5, "top", 5))),
                         (codes("go 0; none; throw; push 3; give"), ((0, 1, "top", 1), (2, 3, "top", 3))))

    def test_gos_to_the_step_behind_stay(self):
        self.assertEqual(mended("reach", codes("go 1; if 2; give")), (codes("go 1; if 2; give"), ()))


class NumbersTest(unittest.TestCase):
    def test_three_steps(self):
        for text, number in [("push 3; push 4; add; give", 7), ("push 9; push 9; add; give", 2),
                             ("push 3; push 4; less; give", 1), ("push 4; push 3; less; give", 0),
                             ("push 4; push 4; less; give", 0), ("push 15; push 1; add; give", 0)]:
            self.assertEqual(mended("numbers", codes(text)), ((("push", number), ("give",)), ()))

    def test_again_and_again(self):
        self.assertEqual(mended("numbers", codes("push 1; push 2; push 3; add; add; push 7; less; give")),
                         (codes("push 1; give"), ()))
        self.assertEqual(mended("numbers", codes("push 1; push 2; add; drop; push 3; push 4; add; give")),
                         (codes("push 3; drop; push 7; give"), ()))

    def test_other_steps_stay(self):
        for text in ["push 1; add; give", "push 1; push 2; same; give", "push 1; none; add; give",
                     "take 0; push 1; add; give", "push 1; push 2; drop; give", "push 1; push 2; give",
                     "push 1; push 2; print; give", "push 1; copy; add; give"]:
            self.assertEqual(mended("numbers", codes(text)), (codes(text), ()))

    def test_steps_that_are_jumped_to(self):
        three = "push 1; push 2; add; "
        for goal in (1, 2):
            for behind, rows in [(f"if {goal}; push 1; give", ()), (f"go {goal}", ()),
                                 ("give", ((0, 4, "top", goal),)), ("give", ((3, 4, "top", goal),))]:
                self.assertEqual(mended("numbers", codes(three + behind), rows), (codes(three + behind), rows))
        self.assertEqual(mended("numbers", codes(three + "if 0; push 1; give")),
                         (codes("push 3; if 0; push 1; give"), ()))
        self.assertEqual(mended("numbers", codes(three + "if 5; go 3; give"), ((3, 5, "top", 3),)),
                         (codes("push 3; if 3; go 1; give"), ((1, 3, "top", 1),)))

    def test_the_second_three_where_the_first_cannot(self):
        self.assertEqual(mended("numbers", codes("push 1; push 2; add; push 3; push 4; less; if 1; give")),
                         (codes("push 1; push 2; add; push 1; if 1; give"), ()))

    def test_handlers(self):
        code = codes("none; push 1; push 2; add; give")
        for row in [(0, 2, "top", 0), (0, 3, "top", 0), (1, 2, "top", 0), (1, 3, "top", 0), (2, 3, "top", 0),
                    (2, 4, "top", 0), (3, 4, "top", 0), (3, 5, "top", 0), (2, 5, "top", 0)]:
            self.assertEqual(mended("numbers", code, (row,)), (code, (row,)))
        for row, made in [((0, 1), (0, 1)), ((0, 4), (0, 2)), ((1, 4), (1, 2)), ((1, 5), (1, 3)), ((0, 5), (0, 3)),
                          ((4, 5), (2, 3))]:
            self.assertEqual(mended("numbers", code, ((*row, "top", 4),)),
                             (codes("none; push 3; give"), ((*made, "top", 2),)))
        self.assertEqual(mended("numbers", code, ((0, 5, "top", 1),)), (codes("none; push 3; give"), ((0, 3, "top", 1),)))


class PairsTest(unittest.TestCase):
    def test_pairs(self):
        for word in ("push 1", "none", "take 3", "copy"):
            self.assertEqual(mended("pairs", codes(f"none; {word}; drop; give")), (codes("none; give"), ()))
            self.assertEqual(mended("pairs", codes(f"{word}; {word}; drop; drop; give")), (codes("give"), ()))
        for text in ["new box; drop; give", "push 1; keep 1; drop; give", "push 1; print; drop; give", "drop; push 1; give",
                     "call box show; drop; give", "push 1; if 2; drop; give", "cast box; drop; give", "drop; drop; give"]:
            self.assertEqual(mended("pairs", codes(text)), (codes(text), ()))

    def test_the_first_ones_ahead(self):
        self.assertEqual(mended("pairs", codes("push 1; copy; drop; if 0; none; drop; give")),
                         (codes("push 1; if 0; give"), ()))
        self.assertEqual(mended("pairs", codes("none; copy; drop; drop; give")), (codes("give"), ()))

    def test_goals_of_the_first_become_the_step_behind(self):
        code = codes("push 1; if 2; push 2; drop; push 3; give")
        self.assertEqual(mended("pairs", code, ((0, 1, "top", 2),)), (codes("push 1; if 2; push 3; give"),
                                                                      ((0, 1, "top", 2),)))
        self.assertEqual(mended("pairs", codes("none; drop; go 0")), (codes("go 0"), ()))
        self.assertEqual(mended("pairs", codes("go 3; push 1; drop; go 1; if 5; give")),
                         (codes("go 1; go 1; if 3; give"), ()))

    def test_drops_that_are_jumped_to(self):
        for text, rows in [("push 1; drop; go 1", ()), ("push 1; drop; if 1; give", ()),
                           ("push 1; drop; give", ((0, 3, "top", 1),)), ("push 1; drop; give", ((2, 3, "top", 1),))]:
            self.assertEqual(mended("pairs", codes(text), rows), (codes(text), rows))

    def test_handlers(self):
        code = codes("none; push 1; drop; give")
        for row in [(0, 2), (1, 2), (2, 3), (2, 4)]:
            self.assertEqual(mended("pairs", code, ((*row, "top", 0),)), (code, ((*row, "top", 0),)))
        for row, made in [((0, 1), (0, 1)), ((0, 3), (0, 1)), ((0, 4), (0, 2)), ((1, 4), (1, 2)), ((3, 4), (1, 2))]:
            self.assertEqual(mended("pairs", code, ((*row, "top", 1),)), (codes("none; give"), ((*made, "top", 1),)))
        # A handler that covers these two alone goes, and with it what it jumped to.
        self.assertEqual(mended("pairs", code, ((1, 3, "top", 3),)), (codes("none; give"), ()))
        self.assertEqual(mended("pairs", codes("none; drop; push 1; drop; give"), ((0, 2, "top", 3), (2, 3, "red", 0))),
                         (codes("push 1; drop; give"), ((0, 1, "red", 0),)))
        self.assertEqual(mended("pairs", codes("none; drop; push 1; drop; give"), ((0, 2, "top", 3),)),
                         (codes("give"), ()))


class CleanedTest(unittest.TestCase):
    def test_example(self):
        code = codes("push 3; push 15; add; none; drop; go 7; print; go 8; give")
        house = House((("box", "top", (("x", "num"),), (("show", (), "num", code, ((4, 7, "box", 6),)),)),))
        self.assertEqual([method_of(passed(house, "box", 0, "numbers"), "box", 0)[3][0],
                          method_of(passed(house, "box", 0, "jumps"), "box", 0)[3][5],
                          method_of(cleaned(house, "box", 0), "box", 0)[3:]],
                         [("push", 2), ("go", 8), (codes("push 2; none; drop; go 6; print; go 6; give"),
                                                   ((2, 5, "box", 4),))])
        self.assertEqual(method_of(with_code(house, "box", 0, (("push", 1), ("give",)), ()), "box", 0)[3],
                         (("push", 1), ("give",)))

    def test_again_and_again(self):
        # Once the pair has gone, three steps become one; these are a pair again.
        code = codes("push 1; none; drop; push 2; add; drop; go 8; print; push 9; give")
        self.assertEqual(mended("all", code), (codes("go 1; push 9; give"), ()))
        # A go to a go, the steps between which go first.
        self.assertEqual(mended("all", codes("go 1; push 1; drop; go 4; give")), (codes("go 1; give"), ()))

    def test_nothing_to_clean(self):
        for text in ["push 1; give", "go 0", "take 1; if 3; go 0; none; throw"]:
            self.assertEqual(mended("all", codes(text)), (codes(text), ()))

    def test_it_is_clean_then(self):
        for seed in range(60):
            house = Maker(seed).house(20)
            for name, place in methods_in(house):
                clean = cleaned(house, name, place)
                for word in WORDS:
                    self.assertTrue(passed(clean, name, place, word) == clean)


class ChanceMaker(Maker):
    def any_step(self, house, many):
        """A step as those of all houses, or oftener one that a pass changes."""
        word = self.chance.choice(["push", "push", "push", "add", "less", "drop", "drop", "none", "copy", "go", ""])
        if word in ("push", "go"):
            return (word, self.chance.randint(0, 15 if word == "push" else many - 1))
        return (word,) if word else super().any_step(house, many)

    def code(self, house, name, place, most):
        """A code as those of all houses, in which up to two steps more are gos."""
        code = list(super().code(house, name, place, most))
        for _ in range(self.chance.randint(0, 2)):
            code[self.chance.randrange(len(code))] = ("go", self.chance.randrange(len(code)))
        return tuple(code)


class ChanceTest(unittest.TestCase):
    def each(self, seeds):
        for seed in range(seeds):
            maker = ChanceMaker(seed)
            house = maker.house(20)
            for name, place in methods_in(house):
                yield house, name, place

    def test_as_told_by_labels(self):
        many = {word: 0 for word in WORDS + ("all",)}
        for house, name, place in self.each(150):
            method = method_of(house, name, place)
            for word in WORDS:
                found = method_of(passed(house, name, place, word), name, place)
                self.assertEqual(found[:3], method[:3])
                self.assertEqual(found[3:], mended_plainly([word], *method[3:]), (word, method))
                many[word] += found != method
            parts, ahead = method[3:], None
            while parts != ahead:
                parts, ahead = mended_plainly(WORDS, *parts), parts
            found = method_of(cleaned(house, name, place), name, place)
            self.assertEqual(found[3:], parts)
            many["all"] += found != method
        for word in many:
            self.assertGreater(many[word], 15, many)

    def test_what_the_checker_lets_by(self):
        mended_ones = 0
        for house, name, place in self.each(250):
            if (name, place) in not_let(house):
                continue
            for word in WORDS:
                made = passed(house, name, place, word)
                self.assertNotIn((name, place), not_let(made))
                mended_ones += made != house
            self.assertNotIn((name, place), not_let(cleaned(house, name, place)))
        self.assertGreater(mended_ones, 100)

    def test_runs_end_alike(self):
        compared = 0
        for house, name, place in self.each(250):
            method = method_of(house, name, place)
            if (name, place) in not_let(house) or any(kind != "num" for kind in method[1]):
                continue
            ins = (3,) * len(method[1])
            try:
                ahead = self.all_told(house, name, method[0], ins)
            except TooLong:
                continue
            for made in [passed(house, name, place, word) for word in WORDS] + [cleaned(house, name, place)]:
                behind = self.all_told(made, name, method[0], ins)
                if ahead[0][0] != "wrong":
                    self.assertEqual(behind[:-1], ahead[:-1])
                    self.assertLessEqual(behind[-1], ahead[-1])
                    compared += made != house
        self.assertGreater(compared, 50)

    def all_told(self, house, name, word, ins):
        return [function(house, name, word, ins)
                for function in (run, prints, things_of, heap_behind, held_behind, count_steps)]


if __name__ == "__main__":
    unittest.main()
