"""What holds over the whole program: points 1, 7, 10 and 56."""

import unittest

from helpers import Maker, methods_in

from classhouse.checker import checked, not_let
from classhouse.desks import Desk
from classhouse.errors import TooLong
from classhouse.houses import House
from classhouse.kinds import fits, upward
from classhouse.linking import linked
from classhouse.loading import late_loads
from classhouse.logs import fits_log
from classhouse.monitors import astray_road, is_plain
from classhouse.rowsof import at_slot, method_row, slot_of
from classhouse.runs import count_steps, heap_behind, held_behind, prints, run, things_of
from classhouse.seen import method_of
from classhouse.targets import targets
from classhouse.texts import read, write
from classhouse.traces import calls_of, met_steps, trace
from classhouse.unwinding import faults_of

TOLD = (run, prints, count_steps, things_of, heap_behind, held_behind, faults_of)


def method_in(house, name, place):
    return [row[3][place] for row in house.classes if row[0] == name][0]


def all_told(house, name, word, ins):
    try:
        return [function(house, name, word, ins) for function in TOLD]
    except TooLong:
        return None


def moved(house, chance):
    """A house whose classes stand in another order, each behind the one above it."""
    rows, left = [], list(house.classes)
    while left:
        free = [row for row in left if row[1] == "top" or row[1] in [other[0] for other in rows]]
        rows.append(chance.choice(free))
        left.remove(rows[-1])
    return House(tuple(rows))


class TogetherTest(unittest.TestCase):
    def runs(self, seeds, maker=Maker):
        """Houses with a class, a method and ins of a run each."""
        for seed in range(seeds):
            chance_maker = maker(seed)
            house = chance_maker.house(12)
            for name, place in methods_in(house):
                word, kinds = method_in(house, name, place)[:2]
                ins = tuple(chance_maker.chance.randint(0, 15) if kind == "num" else
                            ("thing", 0) if kind in upward(house, name) else None for kind in kinds)
                yield chance_maker.chance, house, name, word, ins

    def test_texts_and_other_orders_have_the_same_runs(self):
        compared = 0
        for chance, house, name, word, ins in self.runs(120):
            told = all_told(house, name, word, ins)
            for other in (read(write(house)), moved(house, chance)):
                self.assertEqual(all_told(other, name, word, ins), told)
                self.assertEqual(trace(other, name, word, ins, 50), trace(house, name, word, ins, 50))
                compared += other != house
        self.assertGreater(compared, 50)

    def test_no_run_goes_wrong_in_a_method_that_is_let_by(self):
        ends, met = {}, 0
        for _, house, name, word, ins in self.runs(120, CallMaker):
            told = all_told(house, name, word, ins)
            wrong = not_let(house)
            if told is not None and told[0][0] == "wrong":
                self.assertIn(told[0][1:3], wrong)
            ends[told and told[0][0]] = ends.get(told and told[0][0], 0) + 1
            for state in trace(house, name, word, ins, 25) if told is not None else []:
                if state[-1][:2] not in wrong:
                    self.check_frame(house, state, told[3])
                    met += 1
        self.assertGreater(met, 500)
        self.assertTrue(all(many > 5 for many in ends.values()), ends)

    def check_frame(self, house, state, things):
        """Asks that the uppermost frame of a state fits the frame of its height that checked has."""
        owner, place, step, cells, stack = state[-1]
        frames = [frame for frame in checked(house, owner, place)[step] if len(frame[1]) == len(stack)]
        self.assertEqual(len(frames), 1)
        for value, kind in zip(cells + stack, frames[0][0] + frames[0][1]):
            if isinstance(value, tuple):
                own = things[value[1]]
            else:
                own = {"unset": "unset", None: "none"}.get(value, "num")
            self.assertTrue(fits(house, own, kind), (value, kind))

    def test_calls_go_where_the_rows_tell(self):
        calls = 0
        for _, house, name, word, ins in self.runs(250, CallMaker):
            told = all_told(house, name, word, ins)
            if told is None:
                continue
            states = trace(house, name, word, ins, 100)
            for state, after in zip(states, states[1:]):
                if len(after) <= len(state):
                    continue
                owner, place, step = state[-1][:3]
                _, upper, called = method_in(house, owner, place)[3][step]
                thing = told[3][after[-1][3][0][1]]
                self.assertEqual(at_slot(house, thing, slot_of(house, thing, called)), after[-1][:2])
                self.assertIn((called, after[-1][0]), method_row(house, thing))
                self.assertIn(after[-1][0], targets(house, upper, called))
                self.assertIn(after[-1][0], targets(house, thing, called))
                self.assertEqual(linked(house, ("method", thing, called)), after[-1][:2])
                self.assertEqual(method_of(house, thing, called), after[-1][:2])
                self.assertEqual(slot_of(house, thing, called), slot_of(house, upper, called))
                calls += 1
            self.assertEqual(calls_of(house, name, word, ins, 2000)[:1], [method_of(house, name, word)])
        self.assertGreater(calls, 100)

    def test_plain_methods_end_with_nothing_held(self):
        ended = held = 0
        for _, house, name, word, ins in self.runs(600, PlainMaker):
            place = method_of(house, name, word)
            code = method_in(house, *place)[3]
            if any(step[0] == "call" for step in code) or not is_plain(house, name, word):
                continue
            told = all_told(house, name, word, ins)
            if told is None or astray_road(house, name, word) is not None or told[0][0] == "wrong":
                continue
            if told[0][0] == "throws" and not self.ends_by_throw(house, name, word, ins, told):
                continue
            self.assertFalse(any(told[5]), (house.classes, name, word))
            ended += 1
            held += any(code[step][0] == "enter" for _, _, step in met_steps(house, name, word, ins, 2000))
        self.assertGreater(ended, 100)
        self.assertGreater(held, 10)

    def ends_by_throw(self, house, name, word, ins, told):
        owner, place, step = trace(house, name, word, ins, told[2])[-1][-1][:3]
        return method_in(house, owner, place)[3][step][0] == "throw"

    def test_desks_and_logs_tell_of_the_same_run(self):
        fitting = 0
        for _, house, name, word, ins in self.runs(150):
            told = all_told(house, name, word, ins)
            if told is None:
                continue
            desk = Desk(house, name, word, ins)
            while desk.forth():
                pass
            self.assertEqual([desk.own_prints, len(desk)], [told[1], told[2]])
            if len(told[1]) <= 12:
                self.assertIs(fits_log(house, name, word, ins, told[1]), True)
                self.assertIs(fits_log(house, name, word, ins, ("lost",) * len(told[1])), True)
                fitting += len(told[1]) > 0
        self.assertGreater(fitting, 20)

    def test_what_a_run_makes_is_loaded_by_its_uses(self):
        made = 0
        for _, house, name, word, ins in self.runs(200):
            told = all_told(house, name, word, ins)
            if told is None:
                continue
            uses = []
            for owner, place, step in met_steps(house, name, word, ins, 2000):
                parts = method_in(house, owner, place)[3][step]
                kind = {"new": "class", "cast": "class", "is": "class", "get": "field", "put": "field",
                        "call": "method"}.get(parts[0])
                if kind is not None and (kind, *parts[1:]) not in uses:
                    uses.append((kind, *parts[1:]))
            first = upward(house, name)[:-1][::-1]
            stock = tuple(sorted(row[0] for row in house.classes))
            found = late_loads(house, stock, first, tuple(uses[:40]))
            self.assertEqual(found[0], "all")
            if len(uses) <= 40:
                self.assertTrue(all(thing == "top" or thing in found[1] for thing in told[3]))
                made += any(thing not in ("top", name) for thing in told[3])
        self.assertGreater(made, 20)


class CallMaker(Maker):
    """Makes houses whose methods call first whichever method that is seen, of a word behind their own."""

    def code(self, house, name, place, most):
        rows = [(upper, *method[:3]) for upper in upward(house, name)[:-1]
                for method in [row for row in house.classes if row[0] == upper][0][3]
                if method[0] > method_in(house, name, place)[0]]
        code = super().code(house, name, place, most - 1)
        if not rows:
            return code
        upper, word, ins, _ = self.chance.choice(rows)
        below = [row[0] for row in house.classes if upper in upward(house, row[0])]
        thing = self.chance.choice([("take", 0), ("new", self.chance.choice(below))])
        ahead = (thing, *[("push", 3) if kind == "num" else ("none",) for kind in ins], ("call", upper, word), ("drop",))
        return (*ahead, *[(step[0], step[1] + len(ahead)) if step[0] in ("go", "if") else step for step in code])


class PlainMaker(Maker):
    """Makes houses whose methods enter and leave things, mostly one behind the other."""

    def code(self, house, name, place, most):
        pieces = [(("take", 0), ("enter",)), (("push", 1), ("print",)), (("take", 0), ("leave",))]
        if self.chance.random() < 0.4:
            pieces.insert(1, (("take", 0), ("enter",)))
            pieces.insert(-1, (("take", 0), ("leave",)))
        if self.chance.random() < 0.3:
            pieces.insert(self.chance.randint(1, len(pieces) - 1), (("push", self.chance.randint(0, 1)), ("if", 0)))
        if self.chance.random() < 0.4:
            pieces.insert(self.chance.randint(0, len(pieces)), (("new", "box"), ("throw",)))
        out = method_in(house, name, place)[2]
        steps = [step for piece in pieces for step in piece] + [("push", 1) if out == "num" else ("none",), ("give",)]
        starts = [2 * at for at in range(len(steps) // 2)]
        return tuple(("if", self.chance.choice(starts)) if step[0] == "if" else step for step in steps)

    def handlers(self, house, many):
        rows = []
        for _ in range(self.chance.choice([0, 1, 2])):
            begin = 2 * self.chance.randint(0, many // 2 - 1)
            rows.append((begin, self.chance.randint(begin + 1, many), self.chance.choice(["top", "box"]),
                         2 * self.chance.randint(0, many // 2 - 1)))
        return tuple(rows)


if __name__ == "__main__":
    unittest.main()
