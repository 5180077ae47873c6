"""Roads: points 1 and 19."""

import unittest

from brute import all_frames, least_wrong
from helpers import FAMILY, STRAY, Maker, Raising, family_with, methods_in, strays

from classhouse.errors import BadName, BadPlace, BadRoad, NoHouse
from classhouse.frames import turns_from
from classhouse.houses import House
from classhouse.roads import frame_by, is_wrong_road, reached_steps, wrong_road

FUNCTIONS = [wrong_road, reached_steps]
U = "unset"
CELLS = ("box", U, U, U)


def of_code(code, handlers=(), ins=(), out="num"):
    """What is passed for a method of this code."""
    return family_with(tuple(code), handlers, ins, out), "box", 2


class ExamplesTest(unittest.TestCase, Raising):
    def test_example(self):
        code = (("push", 1), ("if", 3), ("none",), ("take", 1), ("give",))
        house = House((("box", "top", (), (("show", ("num",), "num", code, ()), ("bad", (), "num", code, ()))),))
        self.assertEqual([frame_by(house, "box", 0, ((1, -1), (3, -1))), wrong_road(house, "box", 0),
                          wrong_road(house, "box", 1), is_wrong_road(house, "box", 1, ((1, -1), (2, -1), (3, -1))),
                          reached_steps(house, "box", 0)],
                         [(3, (("box", "num", "unset", "unset"), ())), None, ((1, -1), (3, -1)), True, (0, 1, 2, 3, 4)])
        self.raises(BadRoad, frame_by, house, "box", 0, ((1, -1), (4, -1)), index=1)


class FrameByTest(unittest.TestCase, Raising):
    # A loop, a handler whose goal is the step that comes next, too, and a throw.
    METHOD = of_code((("push", 1), ("if", 0), ("take", 0), ("throw",), ("go", 4)), ((0, 1, "egg", 1), (3, 4, "top", 4)))

    def test_right_roads(self):
        for road, end in [((), (0, (CELLS, ()))), (((1, -1),), (1, (CELLS, ("num",)))),
                          (((1, -1), (0, -1)), (0, (CELLS, ()))), (((1, 0),), (1, (CELLS, ("egg",)))),
                          (((1, -1), (2, -1), (3, -1), (4, 1)), (4, (CELLS, ("top",)))),
                          (((1, -1), (0, -1)) * 500 + ((1, 0),), (1, (CELLS, ("egg",)))),
                          (((1, -1), (2, -1), (3, -1)) + ((4, 1),) + ((4, -1),) * 9, (4, (CELLS, ("top",))))]:
            self.assertEqual(frame_by(*self.METHOD, road), end)

    def test_what_is_no_road(self):
        for road, index in [(((0, -1),), 0), (((1, 1),), 0), (((1, -1), (1, -1)), 1), (((1, -1), (0, 0)), 1),
                            (((1, -1), (2, -1), (3, -1), (4, -1)), 3), (((1, 0), (0, -1)), 1), (((1, 0), (2, -1)), 1),
                            (((1, -1), (0, -1)) * 300 + ((2, -1),), 600), (((1, -2),), 0), (((2, -1), 5), 0),
                            (((1, -1), [0, -1]), 1), (((1,),), 0), (((1, -1, 0),), 0), (((True, -1),), 0),
                            (((1, False),), 0), (((1, -1), (False, -1)), 1), ((1, -1), 0), (("1", "-1"), 0)]:
            self.raises(BadRoad, frame_by, *self.METHOD, road, index=index)
            self.assertIs(is_wrong_road(*self.METHOD, road), False)

    def test_values_of_every_kind(self):
        for value in STRAY:
            if value == ():
                continue
            self.raises(BadRoad, frame_by, *self.METHOD, value, index=0 if isinstance(value, tuple) else None)
            self.raises(BadRoad, frame_by, *self.METHOD, ((1, -1), value), index=1)
            self.raises(BadRoad, frame_by, *self.METHOD, ((1, value),), index=0) if value != -1 else None
            self.raises(BadRoad, frame_by, *self.METHOD, ((value, -1),), index=0)
        self.raises(BadRoad, frame_by, *self.METHOD, [(1, -1)], index=None)
        self.raises(BadRoad, frame_by, *self.METHOD, [], index=None)

    def test_wrong_arguments(self):
        house = self.METHOD[0]
        for function in (frame_by, is_wrong_road):
            self.strays_raise(NoHouse, lambda value: function(value, 1, 2, 3), strays(STRAY[-1]) + [FAMILY])
            self.strays_raise(BadName, lambda value: function(house, value, 9, 3), STRAY + ["num", "gray"])
            self.strays_raise(BadPlace, lambda value: function(house, "box", value, 3), STRAY + [3])
            self.raises(BadPlace, function, house, "top", 0, ())
        for function in FUNCTIONS:
            self.strays_raise(NoHouse, lambda value: function(value, 1, 2), strays(STRAY[-1]) + [FAMILY])
            self.strays_raise(BadName, lambda value: function(house, value, 9), STRAY + ["num", "gray"])
            self.strays_raise(BadPlace, lambda value: function(house, "box", value), STRAY + [3])
            self.raises(BadPlace, function, house, "top", 0)


class WrongRoadTest(unittest.TestCase):
    def test_any_values_are_answered(self):
        method = of_code((("push", 1), ("none",), ("add",), ("give",)))
        at_once = of_code((("add",), ("give",)))
        for value in STRAY:
            self.assertIs(is_wrong_road(*method, value), False)
            self.assertIs(is_wrong_road(*at_once, value), value == ())
            for road in [(value,), ((1, -1), value), ((1, -1), (2, value)), ((1, -1), (value, -1)), [value]]:
                if road != ((1, -1), (2, -1)):
                    self.assertIs(is_wrong_road(*method, road), False)

    def test_wrong_at_once(self):
        method = of_code((("add",), ("give",)))
        self.assertEqual(wrong_road(*method), ())
        self.assertIs(is_wrong_road(*method, ()), True)
        self.assertIs(is_wrong_road(*method, ((1, -1),)), False)
        self.assertEqual(reached_steps(*method), (0,))

    def test_right_methods(self):
        for code in [(("push", 1), ("give",)), (("go", 0),), (("push", 1), ("if", 0), ("take", 0), ("throw",)),
                     (("new", "egg"), ("keep", 0), ("go", 0))]:
            method = of_code(code)
            self.assertIsNone(wrong_road(*method))
            self.assertIs(is_wrong_road(*method, ()), False)
            self.assertEqual(reached_steps(*method), tuple(range(len(code))))

    def test_roads_that_are_cut_off_or_go_on(self):
        method = of_code((("push", 1), ("none",), ("add",), ("give",)))
        self.assertEqual(wrong_road(*method), ((1, -1), (2, -1)))
        for road, told in [((), False), (((1, -1),), False), (((1, -1), (2, -1)), True),
                           (((1, -1), (2, -1), (3, -1)), False), ([(1, -1), (2, -1)], False),
                           (((1, -1), [2, -1]), False), (((True, -1), (2, -1)), False)]:
            self.assertIs(is_wrong_road(*method, road), told)

    def test_longer_and_greater_wrong_roads_are_wrong_too(self):
        method = of_code((("push", 1), ("if", 0), ("push", 1), ("if", 0), ("add",), ("give",)))
        self.assertEqual(wrong_road(*method), ((1, -1), (2, -1), (3, -1), (4, -1)))
        self.assertIs(is_wrong_road(*method, ((1, -1), (0, -1), (1, -1), (2, -1), (3, -1), (4, -1))), True)

    def test_the_least_of_the_shortest(self):
        method = of_code((("push", 1), ("if", 4), ("push", 1), ("if", 0), ("none",), ("none",), ("add",), ("give",)))
        self.assertEqual(wrong_road(*method), ((1, -1), (4, -1), (5, -1), (6, -1)))
        method = of_code((("none",), ("give",), ("add",), ("give",)), ((0, 1, "egg", 2), (0, 1, "top", 2)))
        self.assertEqual(wrong_road(*method), ((1, -1),))
        method = of_code((("none",), ("drop",), ("go", 0), ("add",), ("give",)), ((0, 1, "egg", 3), (0, 1, "top", 3)))
        self.assertEqual(wrong_road(*method), ((3, 0),))

    def test_a_road_that_is_wrong_by_one_place_behind_others(self):
        # Both branches make a frame that has been at the joint before in each of its places but one.
        code = (("push", 1), ("if", 5), ("none",), ("keep", 1), ("go", 7), ("push", 1), ("keep", 2), ("take", 2), ("give",))
        method = of_code(code, (), ("num", "num"))
        self.assertIsNone(wrong_road(*method))
        self.assertEqual(wrong_road(*of_code(code, (), ("num",))), ((1, -1), (2, -1), (3, -1), (4, -1), (7, -1)))

    def test_loops_that_grow(self):
        method = of_code((("push", 1), ("go", 0)))
        self.assertEqual(wrong_road(*method), ((1, -1), (0, -1)) * 6)
        self.assertIs(is_wrong_road(*method, ((1, -1), (0, -1)) * 6), True)
        self.assertIs(is_wrong_road(*method, ((1, -1), (0, -1)) * 5), False)

    def test_a_wrong_road_by_a_handler(self):
        method = of_code((("push", 1), ("give",)), ((0, 2, "top", 0),))
        self.assertIsNone(wrong_road(*of_code((("push", 1), ("give",)), ((1, 2, "top", 0),))))
        self.assertEqual(wrong_road(*of_code((("push", 1), ("give",)), ((0, 2, "top", 1),))), ((1, 0),))
        self.assertIsNone(wrong_road(*method))

    def test_reached_steps(self):
        self.assertEqual(reached_steps(*of_code((("go", 2), ("none",), ("go", 2)))), (0, 2))
        self.assertEqual(reached_steps(*of_code((("push", 1), ("give",), ("none",), ("throw",)), ((1, 2, "top", 3),))),
                         (0, 1, 3))
        self.assertEqual(reached_steps(*of_code((("push", 1), ("if", 3), ("add",), ("go", 3)))), (0, 1, 2, 3))

    def test_a_step_that_no_road_passes(self):
        # Either local is a number on some road, but both are on none.
        code = (("push", 1), ("if", 5), ("none",), ("keep", 1), ("go", 7), ("none",), ("keep", 2),
                ("take", 1), ("take", 2), ("add",), ("give",))
        method = of_code(code, (), ("num", "num"))
        self.assertEqual(reached_steps(*method), tuple(range(10)))


class BruteForceTest(unittest.TestCase):
    def test_many_methods(self):
        some = {True: 0, False: 0}
        for seed in range(120):
            house = Maker(seed).house(10)
            for name, place in methods_in(house):
                roads = all_frames(house, name, place)
                if roads is None:
                    continue
                wrong = wrong_road(house, name, place)
                self.assertEqual(wrong, least_wrong(house, name, place, roads))
                self.assertEqual(reached_steps(house, name, place), tuple(sorted({step for step, _ in roads})))
                some[wrong is None] += 1
                for (step, frame), road in list(roads.items())[:20]:
                    self.assertEqual(frame_by(house, name, place, road), (step, frame))
                    self.assertIs(is_wrong_road(house, name, place, road),
                                  turns_from(house, name, place, step, frame) is None)
        self.assertGreater(min(some.values()), 50)


if __name__ == "__main__":
    unittest.main()
