"""Frames and turns: points 1, 17 and 18."""

import unittest

from helpers import DEEP, FAMILY, GIVE, STRAY, Raising, family_with, strays

from classhouse.errors import BadFrame, BadName, BadPlace, BadStep, NoHouse
from classhouse.frames import first_frame, turns_from
from classhouse.houses import House

HOUSE = House(FAMILY)
U = "unset"
CELLS = ("box", "num", "odd", U)
KINDS = ["num", "none", "odd", "top", "box", "red", "blue", "pink", "egg"]
SIX = ("num",) * 6


class FirstFrameTest(unittest.TestCase, Raising):
    def test_example(self):
        code = (("take", 1), ("if", 3), ("go", 0), ("take", 0), ("get", "box", "x"), ("give",))
        house = House((("box", "top", (("x", "num"),), (("show", ("num",), "num", code, ((0, 2, "box", 3),)),)),))
        frame = first_frame(house, "box", 0)
        self.assertEqual([frame, turns_from(house, "box", 0, 0, frame), turns_from(house, "box", 0, 1, frame)],
                         [(("box", "num", "unset", "unset"), ()),
                          [((1, -1), (("box", "num", "unset", "unset"), ("num",))),
                           ((3, 0), (("box", "num", "unset", "unset"), ("box",)))], None])

    def test_first_frames(self):
        self.assertEqual(first_frame(HOUSE, "box", 0), (("box", U, U, U), ()))
        self.assertEqual(first_frame(HOUSE, "box", 1), (("box", "num", "box", U), ()))
        self.assertEqual(first_frame(HOUSE, "pink", 0), (("pink", "num", "box", U), ()))
        full = family_with(GIVE, (), ("top", "egg", "num"), "num", "egg")
        self.assertEqual(first_frame(full, "egg", 0), (("egg", "top", "egg", "num"), ()))

    def test_wrong_arguments(self):
        self.strays_raise(NoHouse, lambda value: first_frame(value, 1, 2), strays(STRAY[-1]) + [FAMILY])
        self.strays_raise(BadName, lambda value: first_frame(HOUSE, value, 9), STRAY + ["num", "gray"])
        self.strays_raise(BadPlace, lambda value: first_frame(HOUSE, "box", value), STRAY + [2, "0", (0,)])
        self.raises(BadPlace, first_frame, HOUSE, "top", 0)
        self.raises(BadPlace, first_frame, HOUSE, "egg", 0)
        self.raises(BadPlace, first_frame, HOUSE, "red", 1)


class TurnsTest(unittest.TestCase):
    """Each step at place 0 of a code, in the method "test" of box, with the out red."""

    def turns(self, step, stack, cells=CELLS, handlers=()):
        house = family_with((step, ("push", 1), ("go", 0)), handlers, (), "red")
        return turns_from(house, "box", 2, 0, (cells, stack))

    def makes(self, step, stack, made, cells=CELLS, made_cells=None):
        frame = (cells if made_cells is None else made_cells, made)
        self.assertEqual(self.turns(step, stack, cells), [((1, -1), frame)])

    def wrong(self, step, stack, cells=CELLS):
        self.assertIsNone(self.turns(step, stack, cells))

    def wants(self, step, below, fitting, made):
        """The step wants the last kind to be a fitting one, all behind those below."""
        for kind in KINDS:
            if kind in fitting:
                self.makes(step, ("top", *below, kind), ("top", *made))
            else:
                self.wrong(step, ("top", *below, kind))
        self.wrong(step, ())

    def test_steps_that_only_lay(self):
        for step, kind in [(("push", 3), "num"), (("none",), "none"), (("new", "red"), "red"), (("new", "top"), "top"),
                           (("take", 0), "box"), (("take", 1), "num"), (("take", 2), "odd")]:
            self.makes(step, (), (kind,))
            self.makes(step, SIX[:5], SIX[:5] + (kind,))
            self.wrong(step, SIX)

    def test_take_of_an_unset_local(self):
        self.wrong(("take", 3), ())
        self.wrong(("take", 3), SIX)
        self.makes(("take", 3), (), ("egg",), CELLS[:3] + ("egg",))

    def test_keep(self):
        for kind in KINDS:
            for cell in range(4):
                self.makes(("keep", cell), ("none", kind), ("none",), CELLS,
                           CELLS[:cell] + (kind,) + CELLS[cell + 1:])
        self.wrong(("keep", 0), ())

    def test_copy_and_drop(self):
        for kind in KINDS:
            self.makes(("copy",), ("none", kind), ("none", kind, kind))
            self.makes(("drop",), ("none", kind), ("none",))
        self.makes(("copy",), SIX[:5], SIX)
        self.wrong(("copy",), SIX)
        self.wrong(("copy",), ())
        self.makes(("drop",), SIX, SIX[:5])
        self.wrong(("drop",), ())

    def test_two_numbers(self):
        for word in ("add", "less"):
            self.wants((word,), ("num",), ["num"], ("num",))
            for kind in KINDS[1:]:
                self.wrong((word,), (kind, "num"))
            self.wrong((word,), ("num",))
            self.makes((word,), SIX, SIX[:5])

    def test_two_things(self):
        self.wants(("same",), ("none",), ["none", *KINDS[3:]], ("num",))
        for kind in ("num", "odd"):
            self.wrong(("same",), (kind, "box"))
        self.wrong(("same",), ("box",))

    def test_one_thing(self):
        things = ["none", *KINDS[3:]]
        self.wants(("is", "egg"), (), things, ("num",))
        self.wants(("cast", "egg"), (), things, ("egg",))
        self.wants(("cast", "top"), (), things, ("top",))
        self.wants(("enter",), (), things, ())
        self.wants(("leave",), (), things, ())

    def test_one_number(self):
        self.wants(("print",), (), ["num"], ())

    def test_get(self):
        boxes = ["none", "box", "red", "blue", "pink"]
        self.wants(("get", "box", "x"), (), boxes, ("num",))
        self.wants(("get", "box", "y"), (), boxes, ("box",))
        self.wants(("get", "box", "z"), (), boxes, ("top",))
        self.wants(("get", "red", "x"), (), ["none", "red", "pink"], ("num",))
        self.wants(("get", "egg", "x"), (), ["none", "egg"], ("egg",))

    def test_put(self):
        boxes = ["none", "box", "red", "blue", "pink"]
        self.wants(("put", "box", "x"), ("box",), ["num"], ())
        self.wants(("put", "box", "y"), ("box",), boxes, ())
        self.wants(("put", "pink", "w"), ("pink",), ["none", "egg"], ())
        for kind in KINDS:
            if kind in boxes:
                self.makes(("put", "box", "x"), ("odd", kind, "num"), ("odd",))
            else:
                self.wrong(("put", "box", "x"), ("odd", kind, "num"))
        self.wrong(("put", "box", "x"), ("num",))

    def test_call(self):
        boxes = ["none", "box", "red", "blue", "pink"]
        self.wants(("call", "box", "hop"), ("box", "num"), boxes, ("box",))
        self.wants(("call", "red", "show"), (), ["none", "red", "pink"], ("num",))
        self.wants(("call", "blue", "roll"), ("blue",), ["none", *KINDS[3:]], ("top",))
        for kind in KINDS:
            right = kind in boxes
            self.assertEqual(self.turns(("call", "box", "hop"), (kind, "num", "box")) is not None, right)
            right = kind == "num"
            self.assertEqual(self.turns(("call", "box", "hop"), ("box", kind, "box")) is not None, right)
        self.wrong(("call", "box", "hop"), ("num", "box"))
        self.wrong(("call", "box", "hop"), ("box",))
        self.makes(("call", "box", "hop"), SIX[:3] + ("box", "num", "none"), SIX[:3] + ("box",))

    def test_give_and_throw(self):
        for kind in KINDS:
            self.assertEqual(self.turns(("give",), ("num", kind)), [] if kind in ("none", "red", "pink") else None)
            self.assertEqual(self.turns(("throw",), ("num", kind)), [] if kind not in ("num", "odd") else None)
        self.wrong(("give",), ())
        self.wrong(("throw",), ())

    def test_go(self):
        for goal in range(3):
            self.assertEqual(self.turns(("go", goal), SIX), [((goal, -1), (CELLS, SIX))])
            self.assertEqual(self.turns(("go", goal), ()), [((goal, -1), (CELLS, ()))])

    def test_if(self):
        frame = (CELLS, ("odd",))
        self.assertEqual(self.turns(("if", 0), ("odd", "num")), [((0, -1), frame), ((1, -1), frame)])
        self.assertEqual(self.turns(("if", 2), ("odd", "num")), [((1, -1), frame), ((2, -1), frame)])
        self.assertEqual(self.turns(("if", 1), ("odd", "num")), [((1, -1), frame)])
        for kind in KINDS[1:]:
            self.wrong(("if", 2), ("num", kind))
        self.wrong(("if", 2), ())

    def test_handlers(self):
        rows = ((0, 3, "egg", 2), (0, 1, "top", 0), (1, 3, "top", 0), (0, 1, "red", 1))
        made = [((0, 1), (CELLS, ("top",))), ((1, -1), (CELLS, ("num", "num"))), ((1, 3), (CELLS, ("red",))),
                ((2, 0), (CELLS, ("egg",)))]
        self.assertEqual(self.turns(("push", 1), ("num",), CELLS, rows), made)
        self.assertEqual(self.turns(("give",), ("red",), CELLS, rows), [made[0], *made[2:]])
        self.assertIsNone(self.turns(("give",), ("num",), CELLS, rows))

    def test_handlers_have_the_locals_ahead_of_the_step(self):
        self.assertEqual(self.turns(("keep", 3), ("red",), CELLS, ((0, 1, "top", 2),)),
                         [((1, -1), (CELLS[:3] + ("red",), ())), ((2, 0), (CELLS, ("top",)))])

    def test_handlers_cover_steps_ahead_of_their_end(self):
        house = family_with((("none",), ("none",), ("none",), ("go", 0)), ((1, 3, "top", 0),))
        frame = (CELLS, ())
        self.assertEqual([len(turns_from(house, "box", 2, step, frame)) for step in range(4)], [1, 2, 2, 1])

    def test_two_handlers_with_one_goal(self):
        frame = (CELLS, ("top",))
        self.assertEqual(self.turns(("go", 2), (), CELLS, ((0, 1, "top", 2), (0, 1, "top", 2))),
                         [((2, -1), (CELLS, ())), ((2, 0), frame), ((2, 1), frame)])

    def test_returned_lists_are_new(self):
        found = turns_from(HOUSE, "box", 0, 0, (CELLS, ()))
        found.clear()
        self.assertEqual(len(turns_from(HOUSE, "box", 0, 0, (CELLS, ()))), 1)


class WrongArgumentsTest(unittest.TestCase, Raising):
    FRAME = (CELLS, ())

    def test_house_name_and_place(self):
        self.strays_raise(NoHouse, lambda value: turns_from(value, 1, 2, 3, 4), strays(STRAY[-1]) + [FAMILY])
        self.strays_raise(BadName, lambda value: turns_from(HOUSE, value, 9, 9, 9), STRAY + ["num", "gray"])
        self.strays_raise(BadPlace, lambda value: turns_from(HOUSE, "box", value, 9, 9), STRAY + [2])
        self.raises(BadPlace, turns_from, HOUSE, "top", 0, 0, self.FRAME)

    def test_steps(self):
        self.strays_raise(BadStep, lambda value: turns_from(HOUSE, "box", 0, value, 9), STRAY + [2, "0", (0,)])

    def bad(self, frame):
        self.raises(BadFrame, turns_from, HOUSE, "box", 0, 0, frame)

    def test_what_is_no_frame(self):
        for value in STRAY:
            self.bad(value)
            self.bad((value, ()))
            self.bad((CELLS, ("num", value)))
            self.bad(((value, *CELLS[1:]), ()))
            self.bad(((*CELLS[:3], value), ()))
            if value != ():
                self.bad((CELLS, value))
        for frame in [[CELLS, ()], (list(CELLS), ()), (CELLS, []), (CELLS, ["num"]), (CELLS,), (CELLS, (), ()),
                      (CELLS[:3], ()), (CELLS + ("num",), ()), (CELLS, SIX + ("num",)), (CELLS, ("unset",)),
                      (CELLS, ("num", "unset", "num")), (CELLS, ("gray",)), (("gray", U, U, U), ()), (CELLS, DEEP)]:
            self.bad(frame)

    def test_frames_of_all_kinds(self):
        for kind in KINDS:
            self.assertIsNotNone(turns_from(HOUSE, "box", 0, 0, ((kind, U, U, kind), (kind, kind))))
        self.assertIsNone(turns_from(HOUSE, "box", 0, 0, ((U, U, U, U), SIX)))


if __name__ == "__main__":
    unittest.main()
