"""Books and their texts: points 1, 41 and 45."""

import unittest

from books import BookMaker
from helpers import DEEP, FAMILY, NO_TUPLES, PAGES, STRAY, Raising, changed, pages_with, strays

from classhouse.errors import BadBody, BadClasses, BadFields, BadMethods, NoBook
from classhouse.houses import House
from classhouse.trees import Book, write_book

AT = ("at", 0)
EXPRESSIONS = (
    ("num", 0), ("num", 15), ("none",), ("at", 0), ("at", 3), ("add", ("num", 1), AT), ("less", AT, ("num", 2)),
    ("same", AT, ("none",)), ("new", "top"), ("new", "egg"), ("cast", "red", AT), ("is", "top", AT),
    ("get", "red", "w", AT), ("get", "red", "x", AT), ("call", "red", "show", AT, ()),
    ("call", "box", "hop", AT, (("num", 3), ("none",))), ("call", "red", "hop", AT, (("num", 3), AT)),
)
STATEMENTS = (
    ("set", 0, AT), ("set", 3, AT), ("put", "box", "x", AT, ("num", 1)), ("put", "red", "w", AT, ("none",)),
    ("print", AT), ("do", AT), ("give", AT), ("throw", AT), ("if", AT, (), ()),
    ("if", AT, (("do", AT),), (("print", AT), ("give", AT))), ("while", AT, ()), ("while", AT, (("do", AT),)),
    ("try", (), "top", 0, ()), ("try", (("throw", AT),), "red", 3, (("do", AT), ("give", AT))),
)
TREE_WORDS = ("num", "none", "at", "add", "less", "same", "new", "cast", "is", "get", "call", "set", "put", "print",
              "do", "give", "throw", "if", "while", "try")


def nested(depth):
    """An expression of a depth."""
    tree = ("num", 1)
    for at in range(depth - 1):
        tree = (("cast", "top", tree), ("add", ("num", 1), tree), ("get", "box", "x", tree))[at % 3]
    return tree


def depth_of(value):
    """The depth of a body or a tree, as the document counts it."""
    if not value or isinstance(value[0], tuple):
        return 1 + max(depth_of(statement) for statement in value) if value else 0
    inner = []
    for at, part in enumerate(value):
        if isinstance(part, tuple):
            # The things of more count themselves; more is no body.
            inner.extend([depth_of(thing) for thing in part] if value[0] == "call" and at == 4 else [depth_of(part)])
    return 1 + max(inner, default=0)


class BookTest(unittest.TestCase, Raising):
    def test_classes_are_as_they_were_given(self):
        self.assertEqual(Book(PAGES).classes, PAGES)
        with self.assertRaises(AttributeError):
            Book(PAGES).classes = ()

    def test_equality(self):
        self.assertTrue(Book(PAGES) == Book(eval(repr(PAGES))))
        self.assertFalse(Book(PAGES) != Book(eval(repr(PAGES))))
        self.assertTrue(Book(PAGES) != Book(PAGES[::2]))
        self.assertTrue(Book(PAGES) != Book(pages_with(())))
        bare = (("box", "top", (), ()),)
        for value in [PAGES, None, "box", 1, [Book(PAGES)], House(bare), object()]:
            self.assertFalse(Book(PAGES) == value)
            self.assertFalse(value == Book(PAGES))
        self.assertFalse(Book(bare) == House(bare))
        self.assertFalse(House(bare) == Book(bare))
        self.assertIn("classes", vars(Book))
        self.assertIn("__eq__", vars(Book))

    def test_classes_as_those_of_houses(self):
        for value in NO_TUPLES + [(), PAGES * 3, [PAGES[0]]]:
            self.raises(BadClasses, Book, value, index=None)
        for value in STRAY:
            self.raises(BadClasses, Book, PAGES[:1] + (value,), index=1)
        self.raises(BadClasses, Book, PAGES[:1] + PAGES[:1], index=1)
        self.raises(BadClasses, Book, PAGES[1:], index=0)
        for name in ("top", "num", "none", "odd", "unset"):
            self.raises(BadClasses, Book, ((name, "top", (), ()),), index=0)
        for value in strays(()):
            self.raises(BadFields, Book, changed(PAGES, (1, 2), value), index=1)
            self.raises(BadMethods, Book, changed(PAGES, (1, 3), value), index=1,
                        place=0 if isinstance(value, tuple) and len(value) in range(1, 5) else None)
        self.raises(BadFields, Book, changed(PAGES, (1, 2), (("x", "num"),)), index=1)
        self.raises(BadMethods, Book, changed(PAGES, (0, 3), PAGES[0][3] * 2), index=0, place=2)
        many = tuple((word, (), "num", ()) for word in "pqrst")
        self.assertEqual(len(Book(changed(PAGES, (0, 3), many[:4])).classes[0][3]), 4)
        self.raises(BadMethods, Book, changed(PAGES, (0, 3), many), index=0, place=None)

    def test_methods_have_four_parts(self):
        show = PAGES[0][3][0]
        for method in [show[:3], show + ((),), list(show), (show,), ("Show",) + show[1:], ("hop",) + show[1:],
                       show[:1] + ((),) + show[3:], FAMILY[0][3][0]] + strays():
            self.raises(BadMethods, Book, changed(PAGES, (0, 3), (PAGES[0][3][1], method)), index=0, place=1)
        for ins in [None, ("num",) * 4, ("odd",), ["num"], ("gray",), (["num"],)]:
            self.raises(BadMethods, Book, changed(PAGES, (0, 3, 0, 1), ins), index=0, place=0)
        for out in [None, "odd", "none", "gray", ("num",), ["num"]]:
            self.raises(BadMethods, Book, changed(PAGES, (0, 3, 0, 2), out), index=0, place=0)

    def test_methods_below_have_the_same_ins_and_out(self):
        self.raises(BadMethods, Book, changed(PAGES, (1, 3, 0, 2), "box"), index=1, place=0)
        self.raises(BadMethods, Book, changed(PAGES, (1, 3, 0, 1), ("num",)), index=1, place=0)
        Book(changed(PAGES, (2, 3), (("show", ("num",), "box", ()),)))

    def test_several_wrong_ones(self):
        bad = changed(PAGES, (0, 3, 0, 3), None)
        self.raises(BadBody, Book, bad, index=0, place=0)
        self.raises(BadBody, Book, changed(bad, (0, 3, 1, 3), None), index=0, place=0)
        self.raises(BadMethods, Book, changed(bad, (2, 3, 0, 2), None), index=2, place=0)
        self.raises(BadFields, Book, changed(bad, (2, 2), None), index=2)
        self.raises(BadMethods, Book, changed(changed(bad, (2, 2), None), (1, 3), None), index=1, place=None)
        self.raises(BadFields, Book, changed(changed(bad, (1, 2), None), (1, 3), None), index=1)
        self.raises(BadClasses, Book, changed(changed(bad, (1, 2), None), (2, 0), "num"), index=2)
        self.raises(BadBody, Book, changed(pages_with(None), (1, 3, 0, 3), None), index=0, place=2)
        self.raises(BadBody, Book, changed(pages_with(None, (), "num", "egg"), (1, 3, 0, 3), ((),)), index=1, place=0)


class BodyTest(unittest.TestCase, Raising):
    def good(self, body):
        self.assertEqual(Book(pages_with(body)).classes[0][3][2][3], body)

    def bad(self, body):
        self.raises(BadBody, Book, pages_with(body), index=0, place=2)

    def test_each_tree(self):
        self.good(())
        self.good(STATEMENTS)
        self.good(STATEMENTS * 50)
        for tree in EXPRESSIONS:
            for body in [(("do", tree),), (("put", "box", "x", AT, tree),), (("while", tree, ()),),
                         (("if", AT, (), (("give", tree),)),), (("do", ("add", AT, tree)),),
                         (("do", ("call", "box", "hop", AT, (AT, tree))),)]:
                self.good(body)
        self.assertEqual(sorted({tree[0] for tree in EXPRESSIONS + STATEMENTS}), sorted(TREE_WORDS))

    def test_what_is_no_body(self):
        for value in strays(()):
            self.bad(value)
            self.bad((("if", AT, value, ()),))
            self.bad((("if", AT, (), value),))
            self.bad((("while", AT, value),))
            self.bad((("try", value, "top", 1, ()),))
            self.bad((("try", (), "top", 1, value),))
        for statement in STATEMENTS:
            self.bad(statement)
            self.bad([statement])
            self.bad((statement, list(statement)))

    def test_what_is_no_statement_or_expression(self):
        for value in strays():
            self.bad((value,))
            self.bad((("do", AT), value))
            self.bad((("do", value),))
            self.bad((("do", ("add", AT, value)),))
            self.bad((("do", ("call", "box", "hop", AT, (value, AT))),))
        for tree in EXPRESSIONS:
            self.bad((tree,))
        for statement in STATEMENTS:
            self.bad((("do", statement),))

    def test_each_part(self):
        # () can stand where a body does, and as the more of a call without ins.
        for tree in EXPRESSIONS + STATEMENTS:
            for at in range(len(tree)):
                for value in strays(()):
                    self.bad_tree(changed(tree, (at,), value))
            self.bad_tree(tree + (AT,))
            self.bad_tree(tree + ((),))
            self.bad_tree(tree[:-1])
            self.bad_tree(list(tree))
            self.bad_tree((tree,))
            self.bad_tree(())

    def bad_tree(self, tree):
        self.bad(((tree),))
        self.bad((("do", tree),))

    def test_numbers_and_locals(self):
        for value in (-1, 16, True, False, "1", None, (1,)):
            self.bad((("do", ("num", value)),))
        for value in (-1, 4, True, False, "1", None):
            self.bad((("do", ("at", value)),))
            self.bad((("set", value, AT),))
            self.bad((("try", (), "top", value, ()),))

    def test_classes_fields_and_methods(self):
        for name in ("num", "none", "odd", "unset", "gray", None, ["box"], ("box",)):
            for tree in [("new", name), ("cast", name, AT), ("is", name, AT), ("get", name, "x", AT),
                         ("call", name, "show", AT, ())]:
                self.bad((("do", tree),))
            self.bad((("put", name, "x", AT, AT),))
            self.bad((("try", (), name, 1, ()),))
        for name, word in [("top", "x"), ("box", "w"), ("box", "show"), ("egg", "y"), ("box", ["x"]), ("box", None)]:
            self.bad((("do", ("get", name, word, AT)),))
            self.bad((("put", name, word, AT, AT),))
        for name, word in [("top", "show"), ("egg", "show"), ("box", "x"), ("box", None), ("box", ["show"])]:
            self.bad((("do", ("call", name, word, AT, ())),))
        # Things of the class of the method that is added see it themselves.
        self.good((("do", ("call", "red", "test", AT, ())),))

    def test_more_has_as_many_as_ins(self):
        for many in range(4):
            more = (AT,) * many
            (self.good if many == 2 else self.bad)((("do", ("call", "box", "hop", AT, more)),))
            (self.good if many == 1 else self.bad)((("do", ("call", "egg", "roll", AT, more)),))
            (self.good if many == 0 else self.bad)((("do", ("call", "box", "show", AT, more)),))
        self.bad((("do", ("call", "box", "hop", AT, [AT, AT])),))
        self.bad((("do", ("call", "egg", "roll", AT, AT)),))

    def test_depth(self):
        self.assertEqual([depth_of(()), depth_of(("num", 1)), depth_of((("print", ("num", 1)),))], [0, 1, 3])
        for wrap in [lambda inner: (("do", inner),), lambda inner: (("set", 1, inner),),
                     lambda inner: (("print", AT), ("put", "box", "x", AT, inner)),
                     lambda inner: (("put", "box", "x", inner, AT), ("do", AT)),
                     lambda inner: (("while", inner, (("do", AT),)),), lambda inner: (("if", inner, (), ()),),
                     lambda inner: (("if", AT, (), (("do", inner),)),), lambda inner: (("while", AT, (("do", inner),)),),
                     lambda inner: (("try", (("do", inner),), "top", 1, ()),),
                     lambda inner: (("try", (), "top", 1, (("do", inner),)),),
                     lambda inner: (("do", ("call", "box", "hop", inner, (AT, AT))),),
                     lambda inner: (("do", ("call", "box", "hop", AT, (AT, inner))),)]:
            for depth in range(1, 16):
                body = wrap(nested(depth))
                (self.good if depth_of(body) <= 12 else self.bad)(body)
            self.assertIn(12, [depth_of(wrap(nested(depth))) for depth in range(1, 16)])

    def test_depth_of_bodies(self):
        for statement in [("do", AT), ("if", AT, (), ())]:
            body = (statement,)
            while depth_of(body) <= 14:
                (self.good if depth_of(body) <= 12 else self.bad)(body)
                body = (("try", (), "top", 1, body),) if depth_of(body) % 4 == 1 else (("while", AT, body),)

    def test_empty_bodies_have_no_depth(self):
        # A try without statements is a statement of the depth 1, its bodies being of none.
        for depth, inner in [(12, ("try", (), "top", 1, ())), (13, ("do", AT))]:
            body = (inner,)
            for _ in range(5):
                body = (("try", body, "top", 1, ()),)
            self.assertEqual(depth_of(body), depth)
            (self.good if depth <= 12 else self.bad)(body)

    def test_very_deep_trees(self):
        self.bad(DEEP)
        tree, body = AT, ()
        for _ in range(5000):
            tree, body = ("add", tree, AT), (("while", AT, body),)
        self.bad((("do", tree),))
        self.bad(body)


class WriteBookTest(unittest.TestCase, Raising):
    def lines(self, body):
        """The lines of a body."""
        lines = write_book(Book(pages_with(body))).split("\n")
        begin = lines.index("method test num") + 1
        return lines[begin:lines.index("class red under box")]

    def test_classes_fields_and_methods(self):
        self.assertEqual(write_book(Book(PAGES)).split("\n"), [
            "class box under top", "field x num", "field y box", "field z top", "method show num", "give num 1",
            "method hop box num box", "give at 2", "class red under box", "field w egg", "method show num",
            "give num 2", "class egg under top", "field x egg", "method roll num num", "give at 1"])
        self.assertEqual(write_book(Book((("a", "top", (), ()),))), "class a under top")
        self.assertEqual(write_book(Book((("a", "top", (), (("b", (), "top", ()),)),))),
                         "class a under top\nmethod b top")

    def test_the_lines_of_the_document(self):
        pages = (("box", "top", (("x", "num"),), (("show", ("num",), "num", (
            ("set", 1, ("add", ("at", 1), ("num", 2))), ("put", "box", "x", ("at", 0), ("num", 3)),
            ("do", ("call", "box", "show", ("at", 0), (("num", 3),))))),)),)
        self.assertEqual(write_book(Book(pages)).split("\n")[3:],
                         ["set 1 add at 1 num 2", "put box x at 0 num 3", "do call box show at 0 1 num 3"])

    def test_each_expression(self):
        self.assertEqual(self.lines(tuple(("do", tree) for tree in EXPRESSIONS)), ["do " + line for line in [
            "num 0", "num 15", "none", "at 0", "at 3", "add num 1 at 0", "less at 0 num 2", "same at 0 none",
            "new top", "new egg", "cast red at 0", "is top at 0", "get red w at 0", "get red x at 0",
            "call red show at 0 0", "call box hop at 0 2 num 3 none", "call red hop at 0 2 num 3 at 0"]])

    def test_each_statement(self):
        self.assertEqual(self.lines(STATEMENTS), [
            "set 0 at 0", "set 3 at 0", "put box x at 0 num 1", "put red w at 0 none", "print at 0", "do at 0",
            "give at 0", "throw at 0", "if at 0", "else", "end", "if at 0", "do at 0", "else", "print at 0",
            "give at 0", "end", "while at 0", "end", "while at 0", "do at 0", "end", "try", "catch top 0", "end",
            "try", "throw at 0", "catch red 3", "do at 0", "give at 0", "end"])

    def test_trees_within_trees(self):
        call = ("call", "box", "hop", ("call", "red", "hop", AT, (("num", 1), AT)), (("call", "red", "show", AT, ()),
                                                                                  ("none",)))
        self.assertEqual(self.lines((("give", call),)),
                         ["give call box hop call red hop at 0 2 num 1 at 0 2 call red show at 0 0 none"])
        inner = ("if", AT, (("while", AT, (("try", (("print", AT),), "box", 2, (("do", AT),)),)),), (("print", AT),))
        self.assertEqual(self.lines((("try", (inner,), "top", 1, (inner,)), ("do", AT))), [
            "try", "if at 0", "while at 0", "try", "print at 0", "catch box 2", "do at 0", "end", "end", "else",
            "print at 0", "end", "catch top 1", "if at 0", "while at 0", "try", "print at 0", "catch box 2", "do at 0",
            "end", "end", "else", "print at 0", "end", "end", "do at 0"])

    def test_no_book(self):
        self.strays_raise(NoBook, write_book, STRAY + [PAGES, House(FAMILY), "class a under top"])

    def test_books_by_chance_stay_as_they_are(self):
        for seed in range(30):
            book = BookMaker(seed).book()
            classes = eval(repr(book.classes))
            text = write_book(book)
            self.assertEqual(text, write_book(Book(classes)))
            self.assertEqual(book.classes, classes)
            self.assertNotIn("  ", text)
            self.assertFalse(text.endswith("\n"))


if __name__ == "__main__":
    unittest.main()
