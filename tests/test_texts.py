"""Texts: points 1, 8, 9 and 10."""

import unittest

from helpers import FAMILY, GIVE, STRAY, Maker, Raising, family_with, strays

from classhouse.errors import (BadClasses, BadCode, BadFields, BadHandlers, BadMethods, InvalidText, NoHouse, NoText)
from classhouse.houses import House
from classhouse.seen import fields_of, method_of, methods_of
from classhouse.texts import read, write

ALL_STEPS = (
    ("push", 15), ("none",), ("take", 0), ("keep", 3), ("add",), ("less",), ("same",), ("new", "top"),
    ("cast", "red"), ("is", "egg"), ("get", "red", "w"), ("put", "box", "y"), ("call", "box", "show"), ("if", 10),
    ("enter",), ("leave",), ("copy",), ("drop",), ("print",), ("throw",),
)

HEAD = ["class box under top", "field x num", "method show num", "push 1", "give"]


class WriteTest(unittest.TestCase, Raising):
    def test_example(self):
        show = ("show", ("num",), "num", (("push", 1), ("give",)), ((0, 1, "top", 0),))
        house = House((("box", "top", (("x", "num"),), (show,)),))
        self.assertEqual([write(house).split("\n"), read(write(house)) == house, read(" class  egg under top ").classes],
                         [["class box under top", "field x num", "method show num num", "push 1", "give",
                           "catch 0 1 top 0"], True, (("egg", "top", (), ()),)])

    def test_all_lines(self):
        house = family_with(ALL_STEPS, ((0, 20, "top", 19), (10, 11, "pink", 0)), ("num", "box", "top"), "red", "red")
        lines = write(house).split("\n")
        start = lines.index("method test red num box top")
        self.assertEqual(lines[:start], [
            "class box under top", "field x num", "field y box", "field z top", "method show num", "push 1", "give",
            "method hop box num box", "take 2", "give", "class red under box", "field w egg", "method show num",
            "push 2", "give"])
        self.assertEqual(lines[start + 1:start + 24], [
            "push 15", "none", "take 0", "keep 3", "add", "less", "same", "new top", "cast red", "is egg",
            "get red w", "put box y", "call box show", "if 10", "enter", "leave", "copy", "drop", "print", "throw",
            "catch 0 20 top 19", "catch 10 11 pink 0", "class blue under box"])

    def test_a_house_is_read_as_it_was_written(self):
        houses = [House(FAMILY), family_with(ALL_STEPS, ((0, 20, "top", 19),)), House((("a", "top", (), ()),))]
        for house in houses + [Maker(seed).house(20) for seed in range(40)]:
            self.assertTrue(read(write(house)) == house)
            self.assertEqual(write(read(write(house))), write(house))

    def test_no_house(self):
        self.strays_raise(NoHouse, write, strays(STRAY[-1]) + [FAMILY, "class box under top"])

    def test_another_order_sees_the_same(self):
        lines = write(House(FAMILY)).split("\n")
        cuts = [at for at, line in enumerate(lines) if line.startswith("class ")] + [len(lines)]
        parts = [lines[begin:end] for begin, end in zip(cuts, cuts[1:])]
        other = read("\n".join(sum([parts[at] for at in (4, 0, 2, 1, 3)], [])))
        self.assertEqual([row[0] for row in other.classes], ["egg", "box", "blue", "red", "pink"])
        for name in ("box", "red", "blue", "pink", "egg"):
            self.assertEqual(fields_of(other, name), fields_of(House(FAMILY), name))
            self.assertEqual(methods_of(other, name), methods_of(House(FAMILY), name))
            self.assertEqual(method_of(other, name, "show"), method_of(House(FAMILY), name, "show"))


class ReadTest(unittest.TestCase, Raising):
    def bad(self, lines, line, word):
        self.raises(InvalidText, read, "\n".join(lines), line=line, word=word)

    def bad_step(self, row, word):
        """A row that cannot stand in the place of a step."""
        self.bad(HEAD[:3] + ["none", row, "give"], 5, word)

    def test_spaces_mean_nothing(self):
        text = "\n".join(["  class   box  under top   ", " field x   num", "method  show num  ", "   push  1", "give "])
        self.assertTrue(read(text) == read("\n".join(HEAD)))
        self.assertEqual(write(read(text)), "\n".join(HEAD))

    def test_other_blanks_are_no_spaces(self):
        self.bad(["class box under top\t"], 1, 4)
        self.bad(["\tclass box under top"], 1, 1)
        self.bad(["class\tbox under top"], 1, 1)
        self.bad(["class box under top\r", "field x num"], 1, 4)

    def test_what_is_no_string(self):
        self.strays_raise(NoText, read, [value for value in STRAY if not isinstance(value, str)] + [HEAD, 5])

    def test_empty_lines(self):
        for text in ("", "   "):
            self.raises(InvalidText, read, text, line=1, word=1)
        self.bad(HEAD + [""], 6, 1)
        self.bad(HEAD + ["  "], 6, 1)
        self.bad(HEAD[:1] + [""] + HEAD[1:], 2, 1)
        self.bad(["", *HEAD], 1, 1)

    def test_first_words_that_no_line_has(self):
        for word in ["hop", "Class", "classes", "under", "num", "1", "catch1", "push1", "é"]:
            self.bad([word + " box under top"], 1, 1)
            self.bad(HEAD[:1] + [word + " 1"], 2, 1)
            self.bad_step(word, 1)
            self.bad(HEAD + [word], 6, 1)

    def test_lines_that_cannot_stand_at_first(self):
        for line in ["field x num", "method show num", "push 1", "none", "give", "catch 0 1 top 0"]:
            self.bad([line], 1, 1)

    def test_lines_that_cannot_stand_behind_a_class(self):
        for line in ["push 1", "give", "catch 0 1 top 0"]:
            self.bad(HEAD[:1] + [line], 2, 1)
            self.bad(HEAD[:2] + [line], 3, 1)

    def test_fields_stand_behind_their_class_alone(self):
        self.bad(HEAD[:3] + ["field y num"], 4, 1)
        self.bad(HEAD + ["field y num"], 6, 1)
        self.bad(HEAD + ["catch 0 1 top 0", "field y num"], 7, 1)

    def test_a_method_has_a_step(self):
        for line in ["method hop num", "class egg under top", "catch 0 1 top 0"]:
            self.bad(HEAD[:3] + [line], 4, 1)

    def test_what_comes_behind_steps(self):
        for line in ["method hop num", "class egg under top", "catch 0 1 top 0"]:
            for step in ["push 1", "none", "if 0", "print"]:
                self.bad(HEAD[:3] + ["give", step, line], 6, 1)
            for step in ["give", "throw", "go 0"]:
                read("\n".join(HEAD[:3] + ["push 1", step, line] + ["go 0"] * line.startswith("method")))

    def test_only_the_first_word_of_the_last_step_counts(self):
        lines = ["class give under top", "field throw num", "method go num", "none", "new give"]
        for line in ["method hop num", "class egg under top", "catch 0 1 top 0"]:
            self.bad(lines + [line], 6, 1)
        self.bad(lines, 6, 1)
        self.bad(lines[:4] + ["get give throw"], 6, 1)
        read("\n".join(lines + ["call give go", "give"]))

    def test_steps_do_not_stand_behind_catches(self):
        for step in ["give", "push 1", "go 0", "none"]:
            self.bad(HEAD + ["catch 0 1 top 0", step], 7, 1)

    def test_what_stands_behind_catches(self):
        rows = read("\n".join(HEAD + ["catch 0 1 top 0", "method hop num", "go 0", "class egg under box"])).classes
        self.assertEqual([row[0] for row in rows], ["box", "egg"])
        self.assertEqual([method[0] for method in rows[0][3]], ["show", "hop"])

    def test_at_most_four_fields(self):
        fields = ["field " + word + " num" for word in "pqrst"]
        self.assertEqual(len(read("\n".join(HEAD[:1] + fields[:4])).classes[0][2]), 4)
        self.bad(HEAD[:1] + fields, 6, 1)
        self.bad(HEAD[:1] + fields[:4] + ["field 1"], 6, 1)

    def test_at_most_four_methods(self):
        methods = ["method " + word + " num\ngo 0" for word in "pqrst"]
        self.assertEqual(len(read("\n".join(HEAD[:2] + methods[:4])).classes[0][3]), 4)
        self.bad(HEAD[:2] + methods, 11, 1)

    def test_at_most_eight_classes(self):
        classes = ["class " + letter + " under top" for letter in "abcdefghi"]
        self.assertEqual(len(read("\n".join(classes[:8])).classes), 8)
        self.bad(classes, 9, 1)

    def test_at_most_twenty_steps(self):
        lines = HEAD[:3] + ["none"] * 19
        self.assertEqual(len(read("\n".join(lines + ["give"])).classes[0][3][0][3]), 20)
        self.bad(lines + ["give", "give"], 24, 1)
        self.bad(lines + ["none", "give"], 24, 1)
        self.bad(lines + ["none"], 24, 1)
        self.bad(lines + ["none", "class egg under top"], 24, 1)

    def test_at_most_four_catches(self):
        lines = HEAD + ["catch 0 1 top 0"] * 5
        self.assertEqual(len(read("\n".join(lines[:9])).classes[0][3][0][4]), 4)
        self.bad(lines, 10, 1)

    def test_class_lines(self):
        for line, word in [("class", 2), ("class box", 3), ("class box under", 4), ("class Box under top", 2),
                           ("class 1 under top", 2), ("class abcdefg under top", 2), ("class box above top", 3),
                           ("class box top", 3), ("class box under Top", 4), ("class box under abcdefg", 4),
                           ("class box under top top", 5), ("class box under top 1 2", 5), ("class b.x under 5 6", 2),
                           ("class box Under 5 6", 3)]:
            self.bad([line, "hop"], 1, word)
            self.bad(HEAD + [line], 6, word)

    def test_field_lines(self):
        for line, word in [("field", 2), ("field y", 3), ("field Y num", 2), ("field 0 num", 2), ("field y 0", 3),
                           ("field y abcdefg", 3), ("field y num num", 4), ("field 1 2 3", 2)]:
            self.bad(HEAD[:2] + [line, "hop"], 3, word)

    def test_method_lines(self):
        for line, word in [("method", 2), ("method hop", 3), ("method Hop num", 2), ("method 1 num", 2),
                           ("method hop 1", 3), ("method hop num 1", 4), ("method hop num num N", 5),
                           ("method hop num num num abcdefg", 6), ("method hop num num num num num", 7),
                           ("method hop num a b c 1 2", 7), ("method hop num a 1 c d", 5)]:
            self.bad(HEAD + [line, "hop"], 6, word)
        ins = read("\n".join(HEAD + ["method hop box num box top", "give"])).classes[0][3][1][1:3]
        self.assertEqual(ins, (("num", "box", "top"), "box"))

    def test_steps_without_parts(self):
        for word in ["none", "add", "less", "same", "give", "throw", "enter", "leave", "copy", "drop", "print"]:
            self.bad_step(word + " 1", 2)
            self.bad_step(word + " top top", 2)
            read("\n".join(HEAD[:3] + [word, "give"]))

    def test_steps_with_numbers(self):
        for word, most in [("push", 15), ("take", 3), ("keep", 3), ("go", 19), ("if", 19)]:
            self.bad_step(word, 2)
            self.bad_step(word + " 0 0", 3)
            for number in [str(most + 1), "-1", "+1", "00", "01", "1.0", "x", "0x1", "1_0", "９", "²", "9" * 5000, "True"]:
                self.bad_step(word + " " + number, 2)
            row = read("\n".join(HEAD[:3] + [f"{word} {most}"] + ["none"] * 18 + ["give"])).classes[0][3][0][3][0]
            self.assertEqual(row, (word, most))
            self.assertIs(type(row[1]), int)

    def test_steps_with_words(self):
        for word in ["new", "cast", "is"]:
            self.bad_step(word, 2)
            for part in ["1", "Box", "abcdefg", "b_x"]:
                self.bad_step(word + " " + part, 2)
            self.bad_step(word + " box x", 3)
        for word in ["get", "put", "call"]:
            self.bad_step(word, 2)
            self.bad_step(word + " box", 3)
            self.bad_step(word + " 1 x", 2)
            self.bad_step(word + " box X", 3)
            self.bad_step(word + " 1 2 3", 2)
            self.bad_step(word + " box x x", 4)

    def test_catch_lines(self):
        for line, word in [("catch", 2), ("catch 0", 3), ("catch 0 1", 4), ("catch 0 1 top", 5), ("catch 20 1 top 0", 2),
                           ("catch 00 1 top 0", 2), ("catch x 1 top 0", 2), ("catch 0 21 top 0", 3),
                           ("catch 0 01 top 0", 3), ("catch 0 1 5 0", 4), ("catch 0 1 top 20", 5),
                           ("catch 0 1 top -1", 5), ("catch 0 1 top 0 0", 6), ("catch 0 1 Top 20", 4)]:
            self.bad(HEAD + [line, "hop"], 6, word)
        lines = HEAD[:3] + ["none"] * 19 + ["give", "catch 19 20 box 19"]
        self.assertEqual(read("\n".join(lines)).classes[0][3][0][4], ((19, 20, "box", 19),))

    def test_lines_that_are_lacking(self):
        self.bad(HEAD[:3], 4, 1)
        self.bad(HEAD[:4], 5, 1)
        self.bad(HEAD[:3] + ["give", "none"], 6, 1)
        self.bad(HEAD + ["method hop num"], 7, 1)
        self.bad(HEAD + ["method hop num", "none"], 8, 1)
        self.bad(HEAD + ["class egg under top", "method hop num", "none"], 9, 1)

    def test_the_last_method_is_the_one_that_must_be_whole(self):
        for lines in [["method hop num", "none"], ["class egg under top", "method hop num", "none"],
                      ["class egg under top", *HEAD[2:], "method hop num", "none"]]:
            for line in ["method roll num", "class red under top", "catch 0 1 top 0"]:
                self.bad(HEAD + lines + [line], len(HEAD + lines) + 1, 1)

    def test_the_first_line_is_told(self):
        self.bad(["class box under top", "field x", "class egg", "hop"], 2, 3)
        self.bad(["class top under top", "field X num"], 2, 2)

    def test_errors_of_the_house(self):
        def told(error, lines, **fields):
            self.raises(error, read, "\n".join(lines), **fields)

        told(BadClasses, ["class top under top"], index=0)
        told(BadClasses, ["class box under top", "class egg under red"], index=1)
        told(BadClasses, ["class box under top", "class box under top"], index=1)
        told(BadFields, ["class box under top", "class egg under top", "field x none"], index=1)
        told(BadFields, ["class box under top", "field x num", "field x num"], index=0)
        told(BadMethods, HEAD + HEAD[2:], index=0, place=1)
        told(BadMethods, HEAD + ["method hop gray", "give"], index=0, place=1)
        told(BadMethods, HEAD + ["method hop num odd", "give"], index=0, place=1)
        told(BadCode, HEAD[:3] + ["go 1"], index=0, place=0, step=0)
        told(BadCode, HEAD[:3] + ["push 1", "new gray", "give"], index=0, place=0, step=1)
        told(BadCode, HEAD[:3] + ["call box hop", "give"], index=0, place=0, step=0)
        told(BadHandlers, HEAD + ["catch 0 1 top 0", "catch 0 3 top 0"], index=0, place=0, row=1)
        told(BadHandlers, HEAD + ["catch 1 1 top 0"], index=0, place=0, row=0)
        told(BadHandlers, HEAD + ["catch 0 1 num 0"], index=0, place=0, row=0)
        told(BadHandlers, HEAD + ["catch 0 1 top 2"], index=0, place=0, row=0)

    def test_what_is_read_is_made_of_tuples(self):
        house = read("\n".join(HEAD + ["catch 0 1 top 0"]))
        self.assertEqual(house.classes, (("box", "top", (("x", "num"),),
                                          (("show", (), "num", GIVE, ((0, 1, "top", 0),)),)),))


if __name__ == "__main__":
    unittest.main()
