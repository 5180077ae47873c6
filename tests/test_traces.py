"""Traces of runs: points 1, 15 and 16."""

import unittest

from helpers import FAMILY, STRAY, Maker, Raising, family_with, methods_in, strays

from classhouse.errors import BadCount, BadIns, BadName, BadWord, NoHouse, NotSeen
from classhouse.houses import House
from classhouse.runs import count_steps
from classhouse.traces import calls_of, met_steps, shows_trace, state_behind, trace

COUNTING = [state_behind, trace, calls_of, met_steps]
THING = ("thing", 0)
U = "unset"
LOOP = House((("a", "top", (), (("p", (), "num", (("go", 0),), ()),)),))
DEEP = House((("a", "top", (), (("p", (), "num", (("take", 0), ("call", "a", "p"), ("give",)), ()),)),))

# p calls q, which throws; p catches it, and gives.
CALLS = House((
    ("a", "top", (), (
        ("p", ("num",), "num", (("push", 3), ("take", 0), ("take", 1), ("call", "a", "q"), ("give",), ("drop",),
                                ("push", 7), ("give",)), ((3, 4, "b", 5),)),
        ("q", ("num",), "num", (("take", 1), ("if", 3), ("go", 5), ("new", "b"), ("throw",), ("push", 4), ("give",)), ()))),
    ("b", "top", (), ())))
IN_Q = ("a", 0, 3, (THING, 1, U, U), (3,))
STATES = [
    (("a", 0, 0, (THING, 1, U, U), ()),),
    (("a", 0, 1, (THING, 1, U, U), (3,)),),
    (("a", 0, 2, (THING, 1, U, U), (3, THING)),),
    (("a", 0, 3, (THING, 1, U, U), (3, THING, 1)),),
    (IN_Q, ("a", 1, 0, (THING, 1, U, U), ())),
    (IN_Q, ("a", 1, 1, (THING, 1, U, U), (1,))),
    (IN_Q, ("a", 1, 3, (THING, 1, U, U), ())),
    (IN_Q, ("a", 1, 4, (THING, 1, U, U), (("thing", 1),))),
    (("a", 0, 5, (THING, 1, U, U), (("thing", 1),)),),
    (("a", 0, 6, (THING, 1, U, U), ()),),
    (("a", 0, 7, (THING, 1, U, U), (7,)),),
]


class TraceTest(unittest.TestCase, Raising):
    def test_example(self):
        house = House((("box", "top", (), (
            ("show", (), "num", (("push", 1), ("if", 3), ("go", 0), ("push", 2), ("give",)), ()),)),))
        self.assertEqual([state_behind(house, "box", "show", (), 1), state_behind(house, "box", "show", (), 4),
                          len(trace(house, "box", "show", (), 9))],
                         [(("box", 0, 1, (("thing", 0), "unset", "unset", "unset"), (1,)),), None, 4])
        self.assertEqual([calls_of(house, "box", "show", (), 9), met_steps(house, "box", "show", (), 9),
                          shows_trace(house, "box", "show", (), trace(house, "box", "show", (), 2))],
                         [[("box", 0)], [("box", 0, 0), ("box", 0, 1), ("box", 0, 3), ("box", 0, 4)], True])

    def test_states(self):
        for many in range(len(STATES)):
            self.assertEqual(state_behind(CALLS, "a", "p", (1,), many), STATES[many])
            self.assertEqual(trace(CALLS, "a", "p", (1,), many), STATES[:many + 1])
        for many in (11, 12, 2000):
            self.assertIsNone(state_behind(CALLS, "a", "p", (1,), many))
            self.assertEqual(trace(CALLS, "a", "p", (1,), many), STATES)

    def test_an_answer_goes_on_behind_the_call(self):
        self.assertEqual(state_behind(CALLS, "a", "p", (0,), 8), ((IN_Q[:3] + ((THING, 0, U, U), (3,))),
                                                                  ("a", 1, 6, (THING, 0, U, U), (4,))))
        self.assertEqual(state_behind(CALLS, "a", "p", (0,), 9), (("a", 0, 4, (THING, 0, U, U), (3, 4)),))
        self.assertIsNone(state_behind(CALLS, "a", "p", (0,), 10))

    def test_runs_that_go_wrong_have_no_state_behind(self):
        house = family_with((("push", 1), ("throw",)))
        self.assertIsNotNone(state_behind(house, "box", "test", (), 1))
        self.assertIsNone(state_behind(house, "box", "test", (), 2))
        self.assertEqual(len(trace(house, "box", "test", (), 5)), 2)

    def test_the_method_that_is_gone_into_is_told_by_its_own_class(self):
        house = House(FAMILY)
        self.assertEqual(state_behind(house, "pink", "show", (), 0), (("red", 0, 0, (THING, U, U, U), ()),))
        self.assertEqual(calls_of(house, "pink", "show", (), 0), [("red", 0)])

    def test_2000_steps(self):
        self.assertEqual(state_behind(LOOP, "a", "p", (), 2000), (("a", 0, 0, (THING, U, U, U), ()),))
        self.assertEqual(len(trace(LOOP, "a", "p", (), 2000)), 2001)
        self.assertEqual(len(state_behind(DEEP, "a", "p", (), 2000)), 1001)
        self.assertEqual(len(calls_of(DEEP, "a", "p", (), 2000)), 1001)
        self.assertEqual(met_steps(DEEP, "a", "p", (), 2000), [("a", 0, 0), ("a", 0, 1)])

    def test_bad_counts(self):
        for function in COUNTING:
            for many in (0, 1, 2000):
                function(LOOP, "a", "p", (), many)
            self.strays_raise(BadCount, lambda value: function(LOOP, "a", "p", (), value),
                              [value for value in STRAY if value != 99 or value is True] + [2001, -1, "1", (1,), [1]])

    def test_bad_counts_come_last(self):
        for function in COUNTING:
            self.raises(NoHouse, function, 1, 2, 3, 4, 5000)
            self.raises(BadName, function, LOOP, 2, 3, 4, 5000)
            self.raises(BadWord, function, LOOP, "a", 3, 4, 5000)
            self.raises(NotSeen, function, LOOP, "a", "q", 4, 5000)
            self.raises(BadIns, function, LOOP, "a", "p", 4, 5000)
            self.raises(BadIns, function, LOOP, "a", "p", (True,), True)
            self.raises(BadCount, function, LOOP, "a", "p", (), True)

    def test_returned_lists_are_new(self):
        for function in (trace, calls_of, met_steps):
            found = function(CALLS, "a", "p", (1,), 20)
            kept = list(found)
            found.clear()
            self.assertEqual(function(CALLS, "a", "p", (1,), 20), kept)


class ShowsTraceTest(unittest.TestCase, Raising):
    def shows(self, value):
        return shows_trace(CALLS, "a", "p", (1,), value)

    def test_traces(self):
        for many in range(1, len(STATES) + 1):
            self.assertIs(self.shows(STATES[:many]), True)
            self.assertIs(self.shows(tuple(STATES[:many])), True)

    def test_what_is_no_trace(self):
        for value in [[], (), STATES[1:], STATES[:3] + STATES[4:], STATES + STATES[-1:], STATES + [None], STATES[0],
                      [STATES], {0: STATES[0]}, STATES[0][0], STATES[:1] + STATES[:1]]:
            self.assertIs(self.shows(value), False)

    def test_nothing_comes_behind_the_end(self):
        frame = STATES[-1][0]
        for stack in [(), (7,), (7, 7)]:
            for step in (0, 7):
                self.assertIs(self.shows(STATES + [((*frame[:2], step, frame[3], stack),)]), False)
        self.assertIs(self.shows(STATES + [()]), False)

    def test_values_of_every_kind(self):
        for value in STRAY:
            self.assertIs(self.shows(value), False)
            self.assertIs(self.shows([value]), False)
            self.assertIs(self.shows(STATES[:2] + [value]), False)
            self.assertIs(self.shows([(value,)]), False)
            for part in range(5):
                frame = STATES[0][0][:part] + (value,) + STATES[0][0][part + 1:]
                if value != () or part != 4:
                    self.assertIs(self.shows([(frame,)]), False)

    def test_true_and_false_are_no_integers(self):
        for old, new in [("a', 0", "a', False"), ("thing', 0", "thing', False"), ("1, 'unset", "True, 'unset"),
                         ("1, 'unset", "1.0, 'unset")]:
            states = eval(repr(STATES[:1]).replace(old, new))
            self.assertIs(self.shows(STATES[:1]), True)
            self.assertIs(self.shows(states), False)

    def test_lists_are_no_tuples(self):
        self.assertIs(self.shows([list(STATES[0])]), False)
        self.assertIs(self.shows([(list(STATES[0][0]),)]), False)
        frame = STATES[0][0]
        self.assertIs(self.shows([(frame[:3] + (list(frame[3]), frame[4]),)]), False)
        self.assertIs(self.shows([(frame[:4] + ([],),)]), False)

    def test_more_states_than_2001(self):
        state = state_behind(LOOP, "a", "p", (), 0)
        self.assertIs(shows_trace(LOOP, "a", "p", (), [state] * 5000), True)
        self.assertIs(shows_trace(LOOP, "a", "p", (), [state] * 5000 + [()]), False)

    def test_the_value_stays_as_it_is(self):
        value = list(STATES)
        self.shows(value)
        self.assertEqual(value, STATES)

    def test_wrong_arguments(self):
        self.raises(NoHouse, shows_trace, 1, 2, 3, 4, 5)
        self.raises(BadName, shows_trace, LOOP, "b", 3, 4, 5)
        self.raises(BadWord, shows_trace, LOOP, "a", 3, 4, 5)
        self.raises(NotSeen, shows_trace, LOOP, "a", "q", 4, 5)
        self.raises(BadIns, shows_trace, LOOP, "a", "p", [], 5)
        self.strays_raise(NoHouse, lambda value: shows_trace(value, "a", "p", (), []), strays(STRAY[-1]))

    def test_traces_of_many_runs(self):
        for seed in range(15):
            house = Maker(seed).house(12)
            for name, place in methods_in(house):
                word, kinds = [row[3][place][:2] for row in house.classes if row[0] == name][0]
                ins = tuple(3 if kind == "num" else None for kind in kinds)
                states = trace(house, name, word, ins, 60)
                self.assertTrue(shows_trace(house, name, word, ins, states))
                for many, state in enumerate(states):
                    self.assertEqual(state_behind(house, name, word, ins, many), state)
                if len(states) < 61:
                    self.assertEqual(count_steps(house, name, word, ins), len(states))
                else:
                    self.assertIsNotNone(state_behind(house, name, word, ins, 60))


class CallsTest(unittest.TestCase):
    def test_calls(self):
        for many in range(13):
            self.assertEqual(calls_of(CALLS, "a", "p", (1,), many), [("a", 0), ("a", 1)][:1 if many < 4 else 2])

    def test_calls_that_do_not_go_in(self):
        house = family_with((("none",), ("call", "box", "show"), ("give",)))
        self.assertEqual(calls_of(house, "box", "test", (), 9), [("box", 2)])

    def test_nothing_is_done_behind_the_end(self):
        house = House((("a", "top", (), (
            ("p", (), "num", (("take", 0), ("take", 0), ("call", "a", "q"), ("go", 0)), ()),
            ("q", (), "num", (("take", 0), ("throw",)), ()))),))
        for many in (5, 6, 2000):
            self.assertEqual(calls_of(house, "a", "p", (), many), [("a", 0), ("a", 1)])
            self.assertEqual(len(met_steps(house, "a", "p", (), many)), 5)
            self.assertIsNone(state_behind(house, "a", "p", (), many))

    def test_methods_that_are_gone_into_again(self):
        house = family_with((("take", 0), ("call", "box", "show"), ("drop",), ("new", "pink"), ("call", "box", "show"),
                             ("drop",), ("take", 0), ("call", "box", "show"), ("give",)))
        self.assertEqual(calls_of(house, "box", "test", (), 99), [("box", 2), ("box", 0), ("red", 0), ("box", 0)])

    def test_met_steps(self):
        order = [0, 1, 2, 3, 10, 11, 13, 14, 5, 6, 7]
        steps = [("a", at // 10, at % 10) for at in order]
        for many in range(len(order) + 1):
            self.assertEqual(met_steps(CALLS, "a", "p", (1,), many), sorted(steps[:many]))
        self.assertEqual(met_steps(CALLS, "a", "p", (1,), 2000), sorted(steps))

    def test_met_steps_are_told_once(self):
        self.assertEqual(met_steps(LOOP, "a", "p", (), 50), [("a", 0, 0)])
        self.assertEqual(met_steps(LOOP, "a", "p", (), 0), [])

    def test_steps_that_end_the_run_are_met(self):
        house = family_with((("push", 1), ("throw",)))
        self.assertEqual(met_steps(house, "box", "test", (), 9), [("box", 2, 0), ("box", 2, 1)])


if __name__ == "__main__":
    unittest.main()
