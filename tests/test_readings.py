"""Texts of books that are read: points 1, 45 and 46."""

import unittest

from books import BookMaker
from helpers import NO_TUPLES, PAGES, STRAY, Raising, pages_with
from test_trees import EXPRESSIONS, STATEMENTS

from classhouse.errors import BadBody, BadClasses, BadFields, BadMethods, InvalidText, NoText
from classhouse.readings import read_book
from classhouse.trees import Book, write_book

HEAD = ["class box under top", "field x num", "method show num"]
EXPRESSION_WORDS = ["num", "none", "at", "add", "less", "same", "new", "cast", "is", "get", "call"]
NO_NUMBERS = ["-1", "+1", "00", "01", "1.0", "x", "0x1", "1_0", "９", "²", "9" * 5000, "True", "num"]
NO_WORDS = ["1", "Box", "abcdefg", "b_x", "b.x", "é"]


def body_of(lines):
    """The body of the first method of a text that has it."""
    return read_book("\n".join(HEAD + lines)).classes[0][3][0][3]


class ReadBookTest(unittest.TestCase, Raising):
    def bad(self, lines, line, word):
        self.raises(InvalidText, read_book, "\n".join(lines), line=line, word=word)

    def bad_row(self, row, word):
        """A row that cannot stand among the statements."""
        self.bad(HEAD + ["give num 1", row, "hop"], 5, word)

    def test_books_are_read_as_they_were_written(self):
        books = [Book(PAGES), Book(pages_with(STATEMENTS)), Book((("a", "top", (), ()),))]
        books.append(Book(pages_with(tuple(("do", tree) for tree in EXPRESSIONS))))
        books.append(Book(pages_with(STATEMENTS, ("num", "box", "top"), "red", "red")))
        for book in books + [BookMaker(seed).book(3) for seed in range(60)]:
            again = read_book(write_book(book))
            self.assertTrue(again == book)
            self.assertEqual(repr(again.classes), repr(book.classes))
            self.assertEqual(write_book(again), write_book(book))

    def test_the_lines_of_the_document(self):
        lines = ["class box under top", "field x num", "method show num num", "set 1 add at 1 num 2",
                 "put box x at 0 num 3", "do call box show at 0 1 num 3"]
        self.assertEqual(read_book("\n".join(lines)).classes, (("box", "top", (("x", "num"),), (
            ("show", ("num",), "num", (("set", 1, ("add", ("at", 1), ("num", 2))),
                                       ("put", "box", "x", ("at", 0), ("num", 3)),
                                       ("do", ("call", "box", "show", ("at", 0), (("num", 3),))))),)),))

    def test_spaces_mean_nothing(self):
        text = "\n".join(["  class   box  under top   ", " field x   num", "method  show num  ", "  if   num  1 ",
                          "  give  add num 1   num 2", " else ", "  try", "catch   top  1", "end  ", " end "])
        book = read_book(text)
        self.assertEqual(write_book(book).split("\n"), HEAD + ["if num 1", "give add num 1 num 2", "else", "try",
                                                               "catch top 1", "end", "end"])
        self.bad(["class box under top\t"], 1, 4)
        self.bad(HEAD + ["give num\t1"], 4, 2)

    def test_what_is_no_string(self):
        values = [value for value in STRAY if not isinstance(value, str)]
        self.strays_raise(NoText, read_book, values + NO_TUPLES[:3] + [HEAD, Book(PAGES), b"class box under top"])

    def test_empty_lines(self):
        for text in ("", "   "):
            self.raises(InvalidText, read_book, text, line=1, word=1)
        self.bad(HEAD + [""], 4, 1)
        self.bad(HEAD + ["give num 1", "  ", "give num 1"], 5, 1)
        self.bad(HEAD[:1] + [""] + HEAD[1:], 2, 1)

    def test_words_that_begin_no_line(self):
        for word in ["hop", "Give", "classes", "under", "push", "take", "keep", "go", "enter", "1", "give1", "é"]:
            self.bad([word + " box under top"], 1, 1)
            self.bad(HEAD[:1] + [word], 2, 1)
            self.bad_row(word + " 1", 1)
        for word in EXPRESSION_WORDS:
            self.bad_row(word + " 1", 1)

    def test_lines_that_cannot_stand_behind_those_ahead(self):
        statements = ["set 1 num 1", "put box x at 0 num 1", "print num 1", "do num 1", "give num 1", "throw at 0",
                      "if num 1", "while num 1", "try"]
        for line in statements + HEAD[1:] + ["else", "end", "catch top 1"]:
            self.bad([line], 1, 1)
        for line in statements + ["else", "end", "catch top 1"]:
            self.bad(HEAD[:1] + [line], 2, 1)
            self.bad(HEAD[:2] + [line], 3, 1)
        for line in ["field y num", "else", "end", "catch top 1"]:
            self.bad(HEAD + [line], 4, 1)
            self.bad_row(line, 1)

    def test_a_body_may_be_empty(self):
        self.assertEqual(body_of([]), ())
        rows = read_book("\n".join(HEAD + ["method hop num", "class egg under box"])).classes
        self.assertEqual([method[3] for method in rows[0][3]], [(), ()])
        self.assertEqual(rows[1][:2], ("egg", "box"))

    def test_at_most_as_many_as_can_stand(self):
        fields = ["field " + word + " num" for word in "pqrst"]
        self.assertEqual(len(read_book("\n".join(HEAD[:1] + fields[:4])).classes[0][2]), 4)
        self.bad(HEAD[:1] + fields, 6, 1)
        methods = ["method " + word + " num" for word in "pqrst"]
        self.assertEqual(len(read_book("\n".join(HEAD[:2] + methods[:4])).classes[0][3]), 4)
        self.bad(HEAD[:2] + methods, 7, 1)
        classes = ["class " + letter + " under top" for letter in "abcdefghi"]
        self.assertEqual(len(read_book("\n".join(classes[:8])).classes), 8)
        self.bad(classes, 9, 1)
        # Neither codes nor the statements of a body are counted.
        self.assertEqual(len(body_of(["print num 1"] * 90)), 90)

    def test_lines_within_open_bodies(self):
        opened = {"if num 1": "else", "if num 1\nelse": "end", "while num 1": "end", "try": "catch top 1",
                  "try\ncatch top 1": "end"}
        for begin, end in opened.items():
            lines = HEAD + begin.split("\n")
            for line in ["class egg under top", "method hop num", "field y num", "else", "end", "catch top 1"]:
                if line != end:
                    self.bad(lines + [line], len(lines) + 1, 1)
                    self.bad(lines + ["give num 1", line], len(lines) + 2, 1)
                    self.bad(lines + ["while num 0", "end", line], len(lines) + 3, 1)

    def test_lines_that_are_lacking(self):
        for lines in [["if num 1"], ["if num 1", "else"], ["while num 1"], ["try"], ["try", "catch top 1"],
                      ["while num 1", "try", "catch top 1", "end"], ["if num 1", "else", "if num 1", "else", "end"]]:
            self.bad(HEAD + lines, len(HEAD + lines) + 1, 1)
            self.bad(HEAD + lines + ["give num 1"], len(HEAD + lines) + 2, 1)

    def test_bodies_within_bodies(self):
        self.assertEqual(body_of(["try", "if at 0", "while at 0", "print at 0", "end", "else", "try", "catch box 3",
                                  "end", "end", "catch top 1", "do none", "end", "give none"]),
                         (("try", (("if", ("at", 0), (("while", ("at", 0), (("print", ("at", 0)),)),),
                                    (("try", (), "box", 3, ()),)),), "top", 1, (("do", ("none",)),)),
                          ("give", ("none",))))

    def test_class_field_and_method_lines(self):
        for line, word in [("class", 2), ("class box", 3), ("class box under", 4), ("class Box under top", 2),
                           ("class box above top", 3), ("class box under 1", 4), ("class box under top top", 5)]:
            self.bad([line, "hop"], 1, word)
        for line, word in [("field", 2), ("field y", 3), ("field Y num", 2), ("field y 0", 3), ("field y num num", 4)]:
            self.bad(HEAD[:2] + [line, "hop"], 3, word)
        for line, word in [("method", 2), ("method hop", 3), ("method Hop num", 2), ("method hop 1", 3),
                           ("method hop num num abcdefg", 5), ("method hop num num num num num", 7)]:
            self.bad(HEAD + [line, "hop"], 4, word)
        ins = read_book("\n".join(HEAD + ["method hop box num box top"])).classes[0][3][1][1:3]
        self.assertEqual(ins, (("num", "box", "top"), "box"))

    def test_words_that_begin_no_expression(self):
        for line in ["print", "do", "give", "throw", "if", "while", "set 1", "put box x", "put box x num 1", "do add",
                     "do add num 1", "do cast box", "do is box", "do get box x", "do call box show",
                     "do call box show at 0 1", "do call box show at 0 3 none none"]:
            many = len(line.split(" "))
            self.bad_row(line, many + 1)
            for word in ["1", "hop", "Num", "set", "print", "give", "if", "push", "take", "box", "é", "class"]:
                self.bad_row(line + " " + word, many + 1)
                self.bad_row(line + " " + word + " 1 1 1", many + 1)

    def test_numbers(self):
        for ahead, most, behind in [("do num", 15, ""), ("do at", 3, ""), ("set", 3, " num 1"),
                                    ("do call box show at 0", 3, " none" * 3), ("give add num 1 num", 15, "")]:
            many = len(ahead.split(" "))
            self.bad_row(ahead, many + 1)
            for number in NO_NUMBERS + [str(most + 1)]:
                self.bad_row(ahead + " " + number + behind, many + 1)
            if "call" not in ahead:
                self.assertEqual(write_book(read_book("\n".join(HEAD + [f"{ahead} {most}{behind}"]))).split("\n")[3],
                                 f"{ahead} {most}{behind}")
        self.assertIs(type(body_of(["do at 3"])[0][1][1]), int)
        for number in NO_NUMBERS + ["4"]:
            self.bad(HEAD + ["try", "catch top " + number, "hop"], 5, 3)

    def test_words(self):
        for ahead, behind in [("do new", ""), ("do cast", " none"), ("do is", " none"), ("do get", " x none"),
                              ("do get box", " none"), ("do call", " show none 0"), ("do call box", " none 0"),
                              ("put", " x none none"), ("put box", " none none"), ("give cast box new", "")]:
            many = len(ahead.split(" "))
            self.bad_row(ahead, many + 1)
            for word in NO_WORDS:
                self.bad_row(ahead + " " + word + behind, many + 1)
        for word in NO_WORDS:
            self.bad(HEAD + ["try", "catch " + word + " 1", "hop"], 5, 2)
        self.bad(HEAD + ["try", "catch"], 5, 2)
        self.bad(HEAD + ["try", "catch top"], 5, 3)

    def test_further_words(self):
        for line in ["print num 1", "do none", "give at 0", "throw new box", "if num 1", "while num 1", "set 1 none",
                     "put box x at 0 num 1", "do call box show at 0 0", "do call box show at 0 1 none", "try"]:
            many = len(line.split(" "))
            for word in ["1", "none", "num 1", "end"]:
                self.bad_row(line + " " + word, many + 1)
        self.bad(HEAD + ["if num 1", "else num 1"], 5, 2)
        self.bad(HEAD + ["if num 1", "else", "end end"], 6, 2)
        self.bad(HEAD + ["while num 1", "end 1"], 5, 2)
        self.bad(HEAD + ["try", "catch top 1 1"], 5, 4)

    def test_the_first_of_several_is_told(self):
        self.bad(HEAD + ["give num 16 16", "hop", "field X"], 4, 3)
        self.bad(HEAD + ["do call Box Show at 9 9"], 4, 3)
        self.bad(HEAD + ["do call box show at 9 9"], 4, 6)
        self.bad(["class top under top"] + HEAD[1:] + ["give hop"], 4, 2)

    def test_each_line_changed(self):
        lines = write_book(Book(pages_with(STATEMENTS))).split("\n")
        for at, line in enumerate(lines):
            words = line.split(" ")
            self.bad(lines[:at] + [line + " 1 1"] + lines[at + 1:], at + 1, len(words) + 1)
            self.bad(lines[:at] + ["% " + line] + lines[at + 1:], at + 1, 1)
            for place in range(1, len(words)):
                self.bad(lines[:at] + [" ".join(words[:place] + ["%"] + words[place + 1:])] + lines[at + 1:], at + 1,
                         place + 1)
            if words[0] not in ("method", "try", "else", "end"):
                self.bad(lines[:at] + [" ".join(words[:-1])] + lines[at + 1:], at + 1, len(words))

    def test_lines_twice_or_lacking(self):
        lines = HEAD + ["if num 1", "print num 1", "else", "while num 0", "end", "end", "try", "catch top 1", "end"]
        for at, line in [(5, 7), (7, 10), (8, 10), (10, 12), (11, 13)]:
            self.bad(lines[:at + 1] + lines[at:], line, 1)
        for at, line, word in [(0, 1, 1), (3, 5, 1), (5, 8, 1), (6, 8, 1), (9, 10, 1), (10, 11, 1), (11, 12, 1)]:
            self.bad(lines[:at] + lines[at + 1:], line, word)
        # Behind an end that lacks, an outer one stands for it.
        self.bad(lines[:7] + lines[8:], 12, 1)

    def test_errors_of_the_book(self):
        def told(error, lines, **fields):
            self.raises(error, read_book, "\n".join(lines), **fields)

        told(BadClasses, ["class top under top"], index=0)
        told(BadClasses, ["class box under top", "class egg under red"], index=1)
        told(BadFields, ["class box under top", "class egg under top", "field x none"], index=1)
        told(BadMethods, HEAD + HEAD[2:], index=0, place=1)
        told(BadMethods, HEAD + ["method hop num odd", "give num 1"], index=0, place=1)
        for row in ["do new gray", "do get box y at 0", "do call box hop at 0 0", "do call box show at 0 1 num 1",
                    "put box y at 0 num 1", "do get top x at 0", "do new num"]:
            told(BadBody, HEAD + ["method hop num", "give num 1", row], index=0, place=1) if "hop" not in row else \
                told(BadBody, HEAD + [row], index=0, place=0)
        told(BadBody, HEAD + ["try", "catch num 1", "end"], index=0, place=0)
        told(BadMethods, HEAD + ["do new gray", "method show num"], index=0, place=1)

    def test_deep_texts(self):
        deep = "give " + "cast top " * 9 + "none"
        self.assertEqual(write_book(read_book("\n".join(HEAD + [deep]))).split("\n")[3], deep)
        for many in (10, 3000):
            text = "\n".join(HEAD + ["give " + "cast top " * many + "none"])
            self.raises(BadBody, read_book, text, index=0, place=0)
        for many in (6, 7, 3000):
            text = "\n".join(HEAD + ["try"] * many + ["catch top 1", "end"] * many)
            if many == 6:
                self.assertEqual(write_book(read_book(text)), text)
            else:
                self.raises(BadBody, read_book, text, index=0, place=0)


if __name__ == "__main__":
    unittest.main()
