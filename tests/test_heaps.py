"""Heaps: points 1, 52 and 53."""

import random
import unittest

from helpers import FAMILY, NO_TUPLES, STRAY, Maker, Raising, family_with, methods_in, strays

from classhouse.errors import (BadCount, BadHeap, BadIns, BadLump, BadName, BadRoots, BadWord, NoHouse, NotSeen)
from classhouse.heaps import cleared, hold_of, kept_besides, live_at, reached, shows_hold, way_to
from classhouse.houses import House
from classhouse.traces import state_behind, trace

HEAP = ((1,), (), (2, 1))


def some_heap(seed):
    """A heap and roots by chance."""
    chance = random.Random(seed)
    many = chance.randint(1, 8)
    heap = tuple(tuple(chance.randrange(many) for _ in range(chance.choice([0, 0, 1, 1, 2, 3]))) for _ in range(many))
    return heap, tuple(sorted(chance.sample(range(many), chance.randint(0, min(2, many)))))


def ways_plainly(heap, roots, lump):
    """The shortest ways to a lump."""
    ways = [(root,) for root in roots]
    for _ in heap:
        found = [way for way in ways if way[-1] == lump]
        if found:
            return found
        ways = [(*way, other) for way in ways for other in sorted(set(heap[way[-1]])) if other not in way]
    return []


def reached_plainly(heap, begins):
    found = set(begins)
    for _ in heap:
        found |= {other for lump in found for other in heap[lump]}
    return found


def cleared_plainly(heap, roots, chance=None):
    """The lumps cleared by counts that are kept up, the least first, or whichever by chance."""
    counts = [sum(held.count(lump) for held in heap) + (lump in roots) for lump in range(len(heap))]
    gone = []
    while True:
        free = [lump for lump, count in enumerate(counts) if count == 0 and lump not in gone]
        if not free:
            return tuple(gone)
        lump = chance.choice(free) if chance else free[0]
        gone.append(lump)
        for other in heap[lump]:
            counts[other] -= 1


class ReachTest(unittest.TestCase, Raising):
    def test_example(self):
        self.assertEqual([reached(HEAP, (0,)), cleared(HEAP, (0,)), kept_besides(HEAP, (0,)), way_to(HEAP, (0,), 1),
                          hold_of(HEAP, (0,), 2)], [(0, 1), (), (2,), (0, 1), ("ring", (2,), (2,))])
        self.assertEqual([cleared(((1,), ()), ()), shows_hold(HEAP, (0,), 1, ("ring", (2,), (2, 1))),
                          way_to(HEAP, (0,), 2)], [(0, 1), True, None])

    def test_one_lump(self):
        self.assertEqual([reached(((),), ()), reached(((),), (0,)), reached(((0,),), ())], [(), (0,), ()])
        self.assertEqual([cleared(((),), ()), cleared(((),), (0,)), cleared(((0,),), ())], [(0,), (), ()])
        self.assertEqual([kept_besides(((),), ()), kept_besides(((),), (0,)), kept_besides(((0, 0),), ())],
                         [(), (), (0,)])
        self.assertEqual([way_to(((0,),), (0,), 0), way_to(((0,),), (), 0)], [(0,), None])

    def test_eight_lumps(self):
        row = tuple((at + 1,) for at in range(7)) + ((),)
        self.assertEqual([reached(row, (3,)), cleared(row, (3,)), way_to(row, (0,), 7), way_to(row, (0, 5), 7)],
                         [(3, 4, 5, 6, 7), (0, 1, 2), tuple(range(8)), (5, 6, 7)])
        ring = row[:7] + ((0,),)
        self.assertEqual([reached(ring, ()), cleared(ring, ()), kept_besides(ring, ()), kept_besides(ring, (4,))],
                         [(), (), tuple(range(8)), ()])
        self.assertEqual(cleared(row, ()), tuple(range(8)))

    def test_lumps_held_twice(self):
        heap = ((1, 1), (), (1,))
        self.assertEqual([cleared(heap, ()), cleared(heap, (2,)), cleared(heap, (0,)), cleared(heap, (0, 2))],
                         [(0, 2, 1), (0,), (2,), ()])

    def test_rings_that_no_root_reaches(self):
        # 0 and 1 hold each other, 2 hangs on them, 3 holds 0 and is cleared.
        heap = ((1,), (0, 2), (4,), (0,), ())
        self.assertEqual([cleared(heap, ()), kept_besides(heap, ()), reached(heap, ())], [(3,), (0, 1, 2, 4), ()])
        self.assertEqual([cleared(heap, (2,)), kept_besides(heap, (2,)), reached(heap, (2,))], [(3,), (0, 1), (2, 4)])

    def test_the_least_is_cleared_each_time(self):
        self.assertEqual(cleared(((), (0,), (1,)), ()), (2, 1, 0))
        self.assertEqual(cleared(((), (), (0,), (1,)), ()), (2, 0, 3, 1))

    def test_the_least_of_the_shortest_ways(self):
        heap = ((3, 2), (3,), (4,), (4,), ())
        self.assertEqual([way_to(heap, (0,), 4), way_to(heap, (0, 1), 4), way_to(heap, (1,), 4), way_to(heap, (0, 1), 3)],
                         [(0, 2, 4), (0, 2, 4), (1, 3, 4), (0, 3)])
        # A longer way may be less.
        self.assertEqual(way_to(((1, 3), (2,), (3,), ()), (0,), 3), (0, 3))
        self.assertEqual(way_to(((1,), (2,), ()), (0, 2), 2), (2,))

    def test_by_chance(self):
        besides = 0
        for seed in range(500):
            heap, roots = some_heap(seed)
            found = reached_plainly(heap, roots)
            self.assertEqual(reached(heap, roots), tuple(sorted(found)))
            self.assertEqual(cleared(heap, roots), cleared_plainly(heap, roots))
            # Whichever lumps are cleared first, the same ones are in the end.
            other = cleared_plainly(heap, roots, random.Random(seed))
            self.assertEqual(sorted(other), sorted(cleared(heap, roots)))
            rest = tuple(lump for lump in range(len(heap)) if lump not in found and lump not in other)
            self.assertEqual(kept_besides(heap, roots), rest)
            besides += bool(rest)
            for lump in range(len(heap)):
                self.assertEqual(way_to(heap, roots, lump), min(ways_plainly(heap, roots, lump), default=None))
        self.assertGreater(besides, 100)


class HoldTest(unittest.TestCase):
    def each(self):
        for seed in range(400):
            heap, roots = some_heap(seed)
            for lump in range(len(heap)):
                yield heap, roots, lump

    def test_by_chance(self):
        kinds = {}
        for heap, roots, lump in self.each():
            hold = hold_of(heap, roots, lump)
            kind = hold and hold[0]
            kinds[kind] = kinds.get(kind, 0) + 1
            self.assertEqual(hold is None, lump in cleared(heap, roots))
            self.assertEqual(kind == "root", lump in reached(heap, roots))
            if hold is not None:
                self.assertIs(shows_hold(heap, roots, lump, hold), True)
                self.check_hold(heap, roots, lump, hold)
        self.assertTrue(all(kinds.get(kind, 0) > 100 for kind in ("root", "ring", None)), kinds)

    def check_hold(self, heap, roots, lump, hold):
        way = hold[-1]
        self.assertTrue(all(other in heap[one] for one, other in zip(way, way[1:])))
        self.assertEqual(way[-1], lump)
        if hold[0] == "root":
            self.assertIn(way[0], roots)
        else:
            ring = hold[1]
            self.assertEqual(way[0], ring[0])
            self.assertTrue(all(other in heap[one] for one, other in zip(ring, ring[1:] + ring[:1])))

    def test_each_kind(self):
        heap = ((1, 0), (2,), (1, 3), (), (4, 4))
        for lump, hold, shown in [
                (3, ("root", (0, 1, 2, 3)), True), (3, ("root", (0, 0, 1, 2, 1, 2, 3)), True),
                (3, ("root", (1, 2, 3)), False), (3, ("root", (0, 1, 2)), False), (3, ("root", (0, 2, 3)), False),
                (3, ("root", ()), False), (0, ("root", (0,)), True), (0, ("root", (0, 0)), True),
                (3, ("ring", (1, 2), (1, 2, 3)), True), (3, ("ring", (2, 1), (2, 3)), True),
                (3, ("ring", (1, 2, 1, 2), (1, 2, 1, 2, 3)), True), (3, ("ring", (0,), (0, 1, 2, 3)), True),
                (3, ("ring", (2, 1), (1, 2, 3)), False), (3, ("ring", (1,), (1, 2, 3)), False),
                (3, ("ring", (1, 2, 1), (1, 2, 3)), False), (3, ("ring", (), (1, 2, 3)), False),
                (3, ("ring", (1, 2), ()), False), (3, ("ring", (1, 2), (1, 2)), False),
                (3, ("ring", (1, 2), (1, 3)), False), (3, ("ring", (3,), (3,)), False),
                (1, ("ring", (1, 2), (1,)), True), (4, ("ring", (4,), (4,)), True), (4, ("ring", (4, 4), (4, 4)), True),
                (4, ("root", (4,)), False), (4, ("ring", (0,), (0, 4)), False), (0, ("ring", (0,), (0,)), True)]:
            self.assertIs(shows_hold(heap, (0,), lump, hold), shown, (lump, hold))

    def test_no_hold(self):
        self.assertEqual([hold_of(((1,), ()), (), lump) for lump in (0, 1)], [None, None])
        self.assertEqual(hold_of(((), (0,), (2, 0)), (), 1), None)
        self.assertEqual(hold_of(((), (0,), (2, 0)), (), 0), ("ring", (2,), (2, 0)))

    def test_a_root_ahead_of_a_ring(self):
        self.assertEqual(hold_of(((0,),), (0,), 0), ("root", (0,)))
        self.assertEqual(hold_of(((1,), (1, 2), ()), (0,), 2), ("root", (0, 1, 2)))

    def test_values_of_every_kind(self):
        holds = [("root", (0, 1)), ("ring", (2,), (2, 1))]
        for value in STRAY + [list(holds[0]), list(holds[1]), ("root", [0, 1]), ("ring", [2], (2, 1)),
                              ("ring", (2,), [2, 1]), ("root", (0, 1), (0, 1)), ("ring", (2, 1)), ("ring", (2,), (2, 1), ()),
                              ("way", (0, 1)), ("root",), ("root", (False, 1)), ("root", (0, True)), ("root", (0, 9)), ("root", (0, 3)), ("root", (0, 3, 1)),
                              ("root", (0, 4, 1)), ("ring", (3,), (2, 1)), ("ring", (2, 3), (2, 1)), ("ring", (2,), (3, 1)),
                              ("root", (0, -2)), ("root", ("0", 1)), ("ring", (2,), (2, True)), ("ring", (-1,), (2, 1)),
                              (["root"], (0, 1)), (0, 1), holds, {"root": (0, 1)}, ("none",)]:
            self.assertIs(shows_hold(HEAP, (0,), 1, value), False, value)
        for value in strays():
            for hold in [("root", value), ("root", (0, value)), ("ring", value, (2, 1)), ("ring", (2,), value),
                         ("ring", (2, value), (2, 1)), ("ring", (2,), (2, value)), (value, (0, 1)), (value, (2,), (2, 1))]:
                self.assertIs(shows_hold(HEAP, (0,), 1, hold), False, hold)
        for hold in holds:
            self.assertIs(shows_hold(HEAP, (0,), 1, hold), True)


class WrongTest(unittest.TestCase, Raising):
    def each_of_heap(self):
        return [lambda heap: reached(heap, None), lambda heap: cleared(heap, None), lambda heap: kept_besides(heap, None),
                lambda heap: way_to(heap, None, None), lambda heap: hold_of(heap, None, None),
                lambda heap: shows_hold(heap, None, None, None)]

    def test_heaps(self):
        for function in self.each_of_heap():
            for value in NO_TUPLES + [(), ((),) * 9, [()]]:
                self.raises(BadHeap, function, value, index=None)
            for value in strays((), (1, 2)):
                self.raises(BadHeap, function, ((), (1,), value, None), index=2)
                self.raises(BadHeap, function, ((value,), (1,)), index=0)
            for value in [(0, 0, 0, 0), (3,), (-1,), (True,), (0, False), [0], ((0,),), ("0",), (0, None)]:
                self.raises(BadHeap, function, ((0, 1, 2), value, (9,)), index=1)
        self.assertEqual(reached(((0, 0, 0),) * 8, (7,)), (0, 7))

    def test_roots(self):
        functions = [reached, cleared, kept_besides, lambda heap, roots: way_to(heap, roots, None),
                     lambda heap, roots: hold_of(heap, roots, None),
                     lambda heap, roots: shows_hold(heap, roots, None, None)]
        for function in functions:
            for value in strays((), (1, 2)) + [(0, 0), (1, 0), (0, 2, 1), (3,), (0, 3), (-1, 0), (0, True), (False,), [0], [],
                                       (0, None), ((0,),), 0]:
                self.raises(BadRoots, function, HEAP, value)
            self.raises(BadHeap, function, HEAP + (None,), None, index=3)

    def test_lumps(self):
        for function in (way_to, hold_of, lambda heap, roots, lump: shows_hold(heap, roots, lump, ("root", (0,)))):
            for value in strays() + [3, -1, True, False, (0,), "0", None]:
                self.raises(BadLump, function, HEAP, (0,), value)
            self.raises(BadRoots, function, HEAP, (1, 0), None)

    def test_arguments_stay(self):
        heap = ((1, 1), (0, 2), ())
        for function in (reached, cleared, kept_besides):
            self.assertEqual(function(heap, (0,)), function(((1, 1), (0, 2), ()), (0,)))
        self.assertEqual(heap, ((1, 1), (0, 2), ()))


def live_plainly(heap, state):
    """The numbers of the things of a state, and of all that fields of these have, by heap rows of values."""
    found = {value[1] for frame in state for value in frame[3] + frame[4] if isinstance(value, tuple)}
    for _ in heap:
        found |= {value[1] for number in found for value in heap[number] if isinstance(value, tuple)}
    return tuple(sorted(found))


def heap_of_state(house, name, word, ins, many):
    """The values of the fields of all things behind so many steps, by the steps themselves."""
    heap, classes = [], []

    def make(upper):
        fields = []
        while upper != "top":
            row = [row for row in house.classes if row[0] == upper][0]
            fields, upper = list(row[2]) + fields, row[1]
        heap.append({word: 0 if kind == "num" else None for word, kind in fields})

    make(name)
    states = trace(house, name, word, ins, many)
    for state, after in zip(states, states[1:]):
        owner, place, step, _, stack = state[-1]
        code = [row[3][place][3] for row in house.classes if row[0] == owner][0]
        if code[step][0] == "new":
            make(code[step][1])
        elif after[-1][4] == (("thing", len(heap)),) and after[-1][4] != stack and code[step][0] != "take":
            make("top")
        elif code[step][0] == "put" and stack[-2] is not None:
            heap[stack[-2][1]][code[step][2]] = stack[-1]
    return [tuple(fields.values()) for fields in heap]


class LiveTest(unittest.TestCase, Raising):
    def live(self, code, many, handlers=(), ins=(), kinds=(), name="box"):
        return live_at(family_with(code, handlers, kinds), name, "test", ins, many)

    def test_step_by_step(self):
        code = (("new", "box"), ("keep", 1), ("take", 0), ("take", 1), ("put", "box", "y"), ("none",), ("keep", 1),
                ("none",), ("keep", 0), ("push", 1), ("give",))
        self.assertEqual([self.live(code, many) for many in range(13)],
                         [(0,), (0, 1), (0, 1), (0, 1), (0, 1), (0, 1), (0, 1), (0, 1), (0, 1), (), (), None, None])

    def test_what_is_kept_nowhere(self):
        code = (("new", "box"), ("drop",), ("new", "egg"), ("new", "egg"), ("drop",), ("throw",))
        self.assertEqual([self.live(code, many) for many in range(8)],
                         [(0,), (0, 1), (0,), (0, 2), (0, 2, 3), (0, 2), None, None])

    def test_fields_of_live_things(self):
        # 1 holds 2, which holds 3; 1 is held by a local alone.
        code = (("new", "egg"), ("copy",), ("keep", 1), ("new", "egg"), ("copy",), ("keep", 2), ("put", "egg", "x"),
                ("take", 2), ("new", "egg"), ("put", "egg", "x"), ("none",), ("keep", 2), ("none",), ("keep", 1), ("go", 14))
        self.assertEqual([self.live(code, many) for many in (9, 10, 12, 14, 15, 1999)],
                         [(0, 1, 2, 3), (0, 1, 2, 3), (0, 1, 2, 3), (0,), (0,), (0,)])

    def test_rings_that_nothing_else_has(self):
        code = (("new", "egg"), ("copy",), ("copy",), ("put", "egg", "x"), ("drop",), ("push", 1), ("give",))
        self.assertEqual([self.live(code, many) for many in range(8)],
                         [(0,), (0, 1), (0, 1), (0, 1), (0, 1), (0,), (0,), None])

    def test_things_of_frames_below(self):
        hop = ("hop", (), "num", (("none",), ("keep", 0), ("push", 1), ("give",)), ())
        code = (("new", "box"), ("new", "box"), ("call", "box", "hop"), ("drop",), ("keep", 1), ("push", 2), ("give",))
        house = House((("box", "top", (), (hop, ("test", (), "num", code, ()))),))
        self.assertEqual([live_at(house, "box", "test", (), many) for many in range(12)],
                         [(0,), (0, 1), (0, 1, 2), (0, 1, 2), (0, 1, 2), (0, 1), (0, 1), (0, 1), (0, 1), (0, 1), (0, 1),
                          None])

    def test_ins_and_faults(self):
        self.assertEqual(self.live((("take", 1), ("throw",)), 1, (), (("thing", 0),), ("top",)), (0,))
        code = (("none",), ("throw",), ("none",), ("keep", 0), ("give",))
        self.assertEqual([self.live(code, many, ((0, 2, "top", 2),)) for many in range(6)],
                         [(0,), (0,), (0, 1), (0, 1), (1,), None])

    def test_by_chance(self):
        compared = partly = 0
        for seed in range(150):
            house = Maker(seed).house(12)
            for name, place in methods_in(house):
                word, kinds = [row[3][place][:2] for row in house.classes if row[0] == name][0]
                ins = tuple(2 if kind == "num" else None for kind in kinds)
                for many in (0, 3, 7, 12, 30):
                    state = state_behind(house, name, word, ins, many)
                    live = live_at(house, name, word, ins, many)
                    if state is None:
                        self.assertIsNone(live)
                        continue
                    heap = heap_of_state(house, name, word, ins, many)
                    self.assertEqual(live, live_plainly(heap, state))
                    compared += 1
                    partly += len(live) < len(heap)
        self.assertGreater(compared, 300)
        self.assertGreater(partly, 30)

    def test_what_is_not_live_is_met_no_more(self):
        for seed in range(60):
            house = Maker(seed).house(12)
            for name, place in methods_in(house):
                word, kinds = [row[3][place][:2] for row in house.classes if row[0] == name][0]
                ins = tuple(2 if kind == "num" else None for kind in kinds)
                gone, before = set(), set()
                for many in range(40):
                    live = live_at(house, name, word, ins, many)
                    if live is None:
                        break
                    gone |= before - set(live)
                    before = set(live)
                    self.assertFalse(gone & before)

    def test_wrong_values(self):
        house = House(FAMILY)
        for value in strays(STRAY[-1]) + [FAMILY]:
            self.raises(NoHouse, live_at, value, None, None, None, None)
        for value in strays() + ["num", "gray"]:
            self.raises(BadName, live_at, house, value, None, None, None)
            self.raises(BadWord if not isinstance(value, str) or value in ("", " ", "Box", "boxes7", "sevenly", "é", "b x")
                        else NotSeen, live_at, house, "box", value, None, None)
            self.raises(BadIns, live_at, house, "box", "hop", value, None)
        self.raises(NotSeen, live_at, house, "egg", "show", None, None)
        self.raises(NotSeen, live_at, house, "top", "show", None, None)
        for value in [(1,), [1, None], (1, 2), (True, None), (1, ("thing", 1)), (16, None)]:
            self.raises(BadIns, live_at, house, "box", "hop", value, None)
        for value in [None, True, False, -1, 2001, "1", (1,), [], 10 ** 5000]:
            self.raises(BadCount, live_at, house, "box", "hop", (1, None), value)
        self.assertEqual(live_at(family_with((("go", 0),)), "box", "test", (), 2000), (0,))


if __name__ == "__main__":
    unittest.main()
