"""Houses: points 1, 2 and 3."""

import unittest

from helpers import DEEP, FAMILY, GIVE, STRAY, Raising, changed, family_with, strays

from classhouse.errors import BadClasses, BadCode, BadFields, BadHandlers, BadMethods
from classhouse.houses import House

LETTERS = "abcdefghijkl"


def plain(name, upper="top", fields=(), methods=()):
    return (name, upper, fields, methods)


def method(word, ins=(), out="num", code=GIVE, handlers=()):
    return (word, ins, out, code, handlers)


class HouseTest(unittest.TestCase, Raising):
    def test_example(self):
        small = House((("box", "top", (("x", "num"),),
                        (("show", (), "num", (("take", 0), ("get", "box", "x"), ("give",)), ()),)),
                       ("red", "box", (), ())))
        self.assertEqual([len(small.classes), small == House(small.classes), small == House(small.classes[:1])],
                         [2, True, False])

    def test_classes_are_as_they_were_given(self):
        self.assertEqual(House(FAMILY).classes, FAMILY)
        with self.assertRaises(AttributeError):
            House(FAMILY).classes = ()

    def test_equality(self):
        again = eval(repr(FAMILY))
        self.assertTrue(House(FAMILY) == House(again))
        self.assertFalse(House(FAMILY) != House(again))
        self.assertTrue(House(FAMILY) != House(FAMILY[:1] + FAMILY[4:] + FAMILY[1:4]))
        for value in [FAMILY, None, "box", 1, [House(FAMILY)], object()]:
            self.assertFalse(House(FAMILY) == value)
            self.assertFalse(value == House(FAMILY))
        self.assertIn("classes", vars(House))
        self.assertIn("__eq__", vars(House))


class ClassesTest(unittest.TestCase, Raising):
    def test_one_and_eight_classes_stand(self):
        for many in (1, 8):
            self.assertEqual(len(House(tuple(plain(letter) for letter in LETTERS[:many])).classes), many)

    def test_none_and_nine_do_not(self):
        for many in (0, 9):
            self.raises(BadClasses, House, tuple(plain(letter) for letter in LETTERS[:many]), index=None)

    def test_what_is_no_tuple(self):
        for value in strays((None,), (1, 2), (True,), ("box", 1), (["box"],), ({},), DEEP):
            self.raises(BadClasses, House, value, index=None)
        self.raises(BadClasses, House, [plain("box")], index=None)
        self.raises(BadClasses, House, House(FAMILY), index=None)

    def test_things_that_are_no_classes(self):
        for value in STRAY:
            self.raises(BadClasses, House, (plain("a"), value), index=1)
            self.raises(BadClasses, House, (value, plain("a")), index=0)
        self.raises(BadClasses, House, (list(plain("a")),), index=0)
        self.raises(BadClasses, House, (plain("a")[:3],), index=0)
        self.raises(BadClasses, House, (plain("a") + ((),),), index=0)

    def test_names(self):
        for name in ("a", "z", "abcdef", "zzzzzz", "under", "method"):
            self.assertEqual(House((plain(name),)).classes[0][0], name)
        for name in ["top", "num", "none", "odd", "unset", "", "abcdefg", "A", "a1", "a b", " a", "a_", "ä", "aé",
                     None, True, 1, ("a",), ["a"], {}, {"a": 1}, DEEP]:
            self.raises(BadClasses, House, (plain("egg"), plain(name), 5), index=1)

    def test_a_name_stands_once(self):
        self.raises(BadClasses, House, (plain("a"), plain("b"), plain("a")), index=2)

    def test_uppers(self):
        House((plain("a"), plain("b", "a"), plain("c", "a"), plain("d", "c"), plain("e", "top")))
        for upper in ["b", "c", "num", "none", "odd", "unset", "", None, True, 0, ("a",), ["a"], {}, DEEP]:
            self.raises(BadClasses, House, (plain("a"), plain("b", upper), plain("c")), index=1)

    def test_the_first_bad_class_is_told(self):
        self.raises(BadClasses, House, (plain("a"), plain("B"), plain("a")), index=1)

    def test_classes_come_ahead_of_fields(self):
        self.raises(BadClasses, House, (plain("a", "top", 5, 5), plain("b", "b")), index=1)


class FieldsTest(unittest.TestCase, Raising):
    def bad(self, fields, index=1):
        self.raises(BadFields, House, (plain("a", "top", (("up", "num"),)), plain("b", "a", fields), plain("c")),
                    index=index)

    def test_four_fields_stand_and_five_do_not(self):
        fields = tuple((word, "num") for word in "pqrst")
        self.assertEqual(House((plain("a", "top", fields[:4]),)).classes[0][2], fields[:4])
        self.bad(fields)

    def test_kinds_of_fields(self):
        House((plain("a", "top", (("p", "num"), ("q", "top"), ("r", "a"), ("s", "b"))), plain("b")))
        for kind in ["none", "odd", "unset", "d", "", None, 0, True, ("num",), ["num"], {}, DEEP]:
            self.bad((("p", "num"), ("q", kind)))

    def test_words_of_fields(self):
        House((plain("a", "top", (("a", "num"), ("abcdef", "num"), ("top", "num"), ("num", "num"))),))
        for word in ["", "abcdefg", "P", "p ", "é", None, 1, True, ("p",), ["p"], {}, DEEP]:
            self.bad(((word, "num"),))

    def test_words_are_unlike(self):
        self.bad((("p", "num"), ("p", "top")))

    def test_words_are_unlike_those_above(self):
        self.bad((("up", "num"),))
        rows = (plain("a", "top", (("up", "num"),)), plain("b", "a"), plain("c", "b", (("up", "num"),)))
        self.raises(BadFields, House, rows, index=2)
        House((plain("a", "top", (("p", "num"),)), plain("b", "top", (("p", "top"),))))

    def test_what_is_no_tuple_of_pairs(self):
        for value in strays(()):
            self.bad(value)
            self.bad((("p", "num"), value))
        self.bad([("p", "num")])
        self.bad((["p", "num"],))
        self.bad((("p",),))
        self.bad((("p", "num", 1),))

    def test_the_first_bad_class_is_told(self):
        self.raises(BadFields, House, (plain("a", "top", 5), plain("b", "top", 5)), index=0)


class MethodsTest(unittest.TestCase, Raising):
    def bad(self, methods, place, index=1):
        rows = (plain("a", "top", (), (method("up", ("num", "b")),)), plain("b", "a", (), methods),
                plain("c", "b", (), ()))
        self.raises(BadMethods, House, rows, index=index, place=place)

    def test_four_methods_stand_and_five_do_not(self):
        methods = tuple(method(word) for word in "pqrst")
        self.assertEqual(House((plain("a", "top", (), methods[:4]),)).classes[0][3], methods[:4])
        self.bad(methods, None)

    def test_what_is_no_tuple(self):
        for value in [None, True, 0, "", "p", [], {}, [method("p")]]:
            self.bad(value, None)

    def test_things_that_are_no_methods(self):
        for value in STRAY:
            self.bad((method("p"), value), 1)
        self.bad((list(method("p")),), 0)
        self.bad((method("p")[:4],), 0)
        self.bad((method("p") + ((),),), 0)

    def test_words(self):
        House((plain("a", "top", (), (method("a"), method("abcdef"), method("top"), method("num"))),))
        for word in ["", "abcdefg", "P", "p ", "é", None, 1, True, ("p",), ["p"], {}, DEEP]:
            self.bad((method(word),), 0)
        self.bad((method("p"), method("q"), method("p")), 2)

    def test_ins(self):
        House((plain("a", "top", (), (method("p", ("num", "top", "b")), method("q", ("a",)))), plain("b")))
        for kind in ["none", "odd", "unset", "d", "", None, 0, True, ("num",), ["num"], {}, DEEP]:
            self.bad((method("p", ("num", kind)),), 0)
        self.bad((method("p", ("num", "num", "num", "num")),), 0)
        for value in [None, True, 0, "", "num", [], ["num"], {}, {"num": 1}]:
            self.bad((method("p", value),), 0)

    def test_outs(self):
        for kind in ("num", "top", "a", "b"):
            House((plain("a", "top", (), (method("p", (), kind, (("go", 0),)),)), plain("b")))
        for kind in ["none", "odd", "unset", "d", "", None, 0, True, ("num",), ["num"], {}, DEEP]:
            self.bad((method("p", (), kind),), 0)

    def test_a_method_below_has_the_same_ins_and_out(self):
        rows = (plain("a", "top", (), (method("up", ("num", "b")),)), plain("b", "a"))
        House(rows + (plain("c", "b", (), (method("up", ("num", "b")),)),))
        for other in [method("up"), method("up", ("num", "a")), method("up", ("b", "num")),
                      method("up", ("num", "b"), "top"), method("up", ("num",)), method("up", ("num", "b", "num"))]:
            self.raises(BadMethods, House, rows + (plain("c", "b", (), (other,)),), index=2, place=0)
            House(rows + (plain("c", "top", (), (other,)),))

    def test_faults_class_by_class(self):
        bad_fields, bad_methods = (("P", "num"),), (5,)
        rows = (plain("a", "top", bad_fields, bad_methods), plain("b", "top", bad_fields, ()))
        self.raises(BadFields, House, rows, index=0)
        rows = (plain("a", "top", (), bad_methods), plain("b", "top", bad_fields, ()))
        self.raises(BadMethods, House, rows, index=0, place=0)
        rows = (plain("a", "top", (), (method("p"), method("p", (), "num", 5))), plain("b", "top", bad_fields, ()))
        self.raises(BadMethods, House, rows, index=0, place=1)

    def test_codes_come_behind_all_else(self):
        rows = (plain("a", "top", (), (method("p", (), "num", 5, 5),)), plain("b", "top", 5))
        self.raises(BadFields, House, rows, index=1)
        rows = (plain("a", "top", (), (method("p", (), "num", 5, 5),)), plain("b", "top", (), (5,)))
        self.raises(BadMethods, House, rows, index=1, place=0)


STEPS = [
    ("push", 0), ("push", 15), ("none",), ("take", 0), ("take", 3), ("keep", 0), ("keep", 3), ("add",), ("less",),
    ("same",), ("new", "top"), ("new", "egg"), ("cast", "top"), ("cast", "red"), ("is", "top"), ("is", "box"),
    ("get", "box", "x"), ("get", "red", "x"), ("get", "pink", "w"), ("put", "blue", "z"), ("put", "egg", "x"),
    ("call", "box", "show"), ("call", "pink", "show"), ("call", "blue", "roll"), ("call", "box", "test"),
    ("call", "red", "test"), ("go", 0), ("go", 1), ("if", 0), ("if", 1), ("give",), ("throw",), ("enter",),
    ("leave",), ("copy",), ("drop",), ("print",),
]

NO_STEPS = [
    ("push", -1), ("push", 16), ("push", True), ("push", "1"), ("push", None), ("push", (1,)), ("push", 10 ** 5000),
    ("take", -1), ("take", 4), ("take", False), ("keep", -1), ("keep", 4), ("keep", True), ("keep", [1]),
    ("go", -1), ("go", 2), ("go", True), ("go", "0"), ("if", -1), ("if", 2), ("if", False), ("if", None),
    ("new", "num"), ("new", "none"), ("new", "odd"), ("new", "unset"), ("new", "gray"), ("new", None), ("new", ["box"]),
    ("cast", "num"), ("cast", "gray"), ("cast", 0), ("cast", {}), ("is", "num"), ("is", "gray"), ("is", ()), ("is", True),
    ("get", "box", "w"), ("get", "top", "x"), ("get", "egg", "y"), ("get", "gray", "x"), ("get", "box", "show"),
    ("get", "box", None), ("get", "box", ["x"]), ("get", ["box"], "x"), ("get", None, "x"), ("get", "x", "box"),
    ("put", "box", "w"), ("put", "top", "x"), ("put", "blue", "w"), ("put", "gray", "x"), ("put", "box", {}),
    ("call", "box", "roll"), ("call", "egg", "show"), ("call", "top", "show"), ("call", "gray", "show"),
    ("call", "box", "x"), ("call", "box", 0), ("call", "box", ["show"]), ("call", True, "show"), ("call", {}, "show"),
    ("hop",), ("",), (None,), (1,), (True,), (["push"], 1), ({}, 1), (("push",), 1), ("Push", 1), ("push ", 1),
    (), "push", ["push", 1], ["none"], {"push": 1}, None, True, 0, 3, DEEP,
]


class CodeTest(unittest.TestCase, Raising):
    def bad(self, code, step):
        self.raises(BadCode, family_with, code, index=0, place=2, step=step)

    def test_each_step_stands(self):
        for step in STEPS:
            self.assertEqual(family_with((step, ("give",))).classes[0][3][2][3][0], step)

    def test_each_step_but_three_is_not_the_last(self):
        for step in STEPS:
            if step[0] in ("give", "go", "throw"):
                family_with((("none",), step))
            else:
                self.bad((("none",), step), 1)

    def test_what_is_no_step(self):
        for step in NO_STEPS:
            self.bad((("none",), step), 1)
            self.bad((step, ("give",)), 0)

    def test_steps_with_more_or_fewer_parts(self):
        for step in STEPS:
            self.bad((("none",), ("none",), step + (0,), ("give",)), 2)
            self.bad((step[:-1], ("give",)), 0)
            self.bad((list(step), ("give",)), 0)

    def test_strays_in_the_place_of_each_part(self):
        for step in STEPS:
            for part in range(len(step)):
                for value in STRAY:
                    self.bad((("none",), changed(step, (part,), value), ("give",)), 1)

    def test_goals_are_steps_of_the_code(self):
        for many in (1, 2, 20):
            for word in ("go", "if"):
                code = ((word, many - 1),) + (("none",),) * (many - 2) + (("go", 0),) * min(1, many - 1)
                if many > 1 or word == "go":
                    self.assertEqual(len(family_with(code).classes[0][3][2][3]), many)
                self.bad(((word, many),) + code[1:], 0)

    def test_one_to_twenty_steps(self):
        for many in (1, 20):
            family_with((("none",),) * (many - 1) + (("give",),))
        self.bad((), None)
        self.bad((("none",),) * 20 + (("give",),), None)

    def test_what_is_no_tuple(self):
        for value in [None, True, 0, "give", [], [("give",)], {}, {("give",): 1}]:
            self.bad(value, None)

    def test_the_first_bad_step_is_told(self):
        self.bad((("none",), 5, 6, ("none",)), 1)
        self.bad((("none",), ("none",), ("go", 3)), 2)

    def test_later_classes_and_methods_may_be_named(self):
        House((plain("a", "top", (), (method("p", (), "num", (("call", "b", "q"), ("get", "b", "x"), ("give",))),)),
               plain("b", "top", (("x", "num"),), (method("q"),))))


class HandlersTest(unittest.TestCase, Raising):
    CODE = (("none",), ("push", 1), ("give",))

    def bad(self, handlers, row):
        self.raises(BadHandlers, family_with, self.CODE, handlers, index=0, place=2, row=row)

    def test_handlers_that_stand(self):
        for row in [(0, 1, "top", 0), (0, 3, "box", 2), (2, 3, "egg", 0), (1, 2, "pink", 1)]:
            self.assertEqual(family_with(self.CODE, (row,)).classes[0][3][2][4], (row,))

    def test_four_stand_and_five_do_not(self):
        rows = ((0, 1, "top", 0),) * 5
        family_with(self.CODE, rows[:4])
        self.bad(rows, None)

    def test_what_is_no_handler(self):
        good = (0, 3, "top", 0)
        for row in [(-1, 1, "top", 0), (3, 3, "top", 0), (3, 4, "top", 0), (0, 0, "top", 0), (2, 1, "top", 0),
                    (0, 4, "top", 0), (0, 1, "num", 0), (0, 1, "gray", 0), (0, 1, "none", 0), (0, 1, "top", 3),
                    (0, 1, "top", -1), (False, 1, "top", 0), (0, True, "top", 0), (0, 1, "top", False),
                    (0, 1, "top"), (0, 1, "top", 0, 0), [0, 1, "top", 0]]:
            self.bad((row,), 0)
            self.bad((good, row, 5), 1)
        for part in range(4):
            for value in STRAY:
                self.bad((good, good, changed(good, (part,), value)), 2)
        for value in STRAY:
            self.bad((good, value), 1)

    def test_what_is_no_tuple(self):
        for value in [None, True, 0, "", "top", [], [(0, 1, "top", 0)], {}]:
            self.bad(value, None)

    def test_codes_and_handlers_method_by_method(self):
        bad_code, bad_rows = 5, 5
        rows = (plain("a", "top", (), (method("p", (), "num", GIVE, bad_rows), method("q", (), "num", bad_code))),)
        self.raises(BadHandlers, House, rows, index=0, place=0, row=None)
        rows = (plain("a", "top", (), (method("p"), method("q", (), "num", (("none",),), bad_rows))),
                plain("b", "top", (), (method("p", (), "num", bad_code),)))
        self.raises(BadCode, House, rows, index=0, place=1, step=0)
        rows = (plain("a", "top", (), (method("p"),)), plain("b", "top", (), (method("q", (), "num", bad_code, ()),)))
        self.raises(BadCode, House, rows, index=1, place=0, step=None)


if __name__ == "__main__":
    unittest.main()
