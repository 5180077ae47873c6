"""Pools, codes told by places, and links: points 1, 23 and 24."""

import unittest

from helpers import FAMILY, GIVE, NO_TUPLES, STRAY, Maker, Raising, methods_in, strays, tiny, uppers

from classhouse.errors import BadEntry, BadName, BadPlace, BadPool, BadPooled, NoHouse
from classhouse.houses import House
from classhouse.linking import link_table, linked, pool, pooled, unpooled
from classhouse.seen import fields_of, method_of

CODE = (("new", "red"), ("cast", "box"), ("is", "top"), ("get", "box", "x"), ("call", "red", "show"), ("take", 0),
        ("put", "red", "x"), ("get", "red", "x"), ("call", "box", "show"), ("is", "red"), ("push", 3), ("give",))
NAMING = ("test", (), "num", CODE, ((0, 3, "egg", 1), (0, 9, "box", 2), (3, 4, "pink", 0)))
HOUSE = House(FAMILY[:4] + (("egg", "top", (("x", "egg"),), (
    NAMING, tiny("none"), ("last", (), "num", (("new", "blue"), ("new", "egg"), ("give",)), ((0, 1, "top", 0),)))),))
POOL = (("class", "red"), ("class", "box"), ("class", "top"), ("field", "box", "x"), ("method", "red", "show"),
        ("field", "red", "x"), ("method", "box", "show"), ("class", "egg"), ("class", "pink"), ("class", "blue"))
KIND_OF_STEP = {"new": "class", "cast": "class", "is": "class", "get": "field", "put": "field", "call": "method"}


class PoolTest(unittest.TestCase, Raising):
    def test_example(self):
        show = ("show", (), "num", (("new", "box"), ("call", "red", "show"), ("new", "box"), ("get", "red", "y"),
                                    ("give",)), ((0, 2, "top", 4),))
        house = House((("box", "top", (("x", "num"),), ()), ("red", "box", (("y", "num"),), (show,))))
        self.assertEqual([pool(house, "red"), pooled(house, "red", 0)[:3], link_table(house, "red")],
                         [(("class", "box"), ("method", "red", "show"), ("field", "red", "y"), ("class", "top")),
                          (("new", 0), ("call", 1), ("new", 0)), (1, ("red", 0), ("red", 1), 0)])
        self.assertEqual([unpooled(pool(house, "red"), pooled(house, "red", 0)) == show[3],
                          linked(house, ("field", "red", "x"))], [True, ("box", 0)])
        self.raises(BadPooled, unpooled, (("class", "box"),), (("get", 0),), step=0)

    def test_each_entry_once_in_its_place(self):
        self.assertEqual(pool(HOUSE, "egg"), POOL)

    def test_own_methods_alone(self):
        self.assertEqual(pool(HOUSE, "red"), ())
        below = House(HOUSE.classes + (("gray", "egg", (), ()), ("pale", "egg", (), (tiny("hop"),))))
        self.assertEqual([pool(below, "gray"), pool(below, "pale"), pool(below, "top")], [(), (), ()])

    def test_handlers_come_behind_the_steps_of_their_method(self):
        first = ("hop", (), "num", GIVE, ((0, 1, "red", 0),))
        second = ("show", (), "num", (("new", "box"), ("new", "red"), ("give",)), ())
        house = House((("box", "top", (), (first, second)), ("red", "top", (), (second, first))))
        self.assertEqual(pool(house, "box"), (("class", "red"), ("class", "box")))
        self.assertEqual(pool(house, "red"), (("class", "box"), ("class", "red")))

    def test_pooled_tells_each_naming_step_by_its_place(self):
        self.assertEqual(pooled(HOUSE, "egg", 0), (
            ("new", 0), ("cast", 1), ("is", 2), ("get", 3), ("call", 4), ("take", 0), ("put", 5), ("get", 5),
            ("call", 6), ("is", 0), ("push", 3), ("give",)))
        self.assertEqual(pooled(HOUSE, "egg", 1), (("go", 0),))
        self.assertEqual(pooled(HOUSE, "egg", 2), (("new", 9), ("new", 7), ("give",)))
        self.assertEqual(pooled(HOUSE, "red", 0), (("push", 2), ("give",)))

    def test_words_of_steps_may_be_names(self):
        code = (("new", "get"), ("get", "call", "new"), ("call", "get", "put"), ("take", 0), ("cast", "new"), ("give",))
        house = House((("get", "top", (), (("put", (), "num", code, ((0, 1, "call", 0),)),)),
                       ("call", "top", (("new", "num"),), ()), ("new", "top", (), ())))
        self.assertEqual(pool(house, "get"), (("class", "get"), ("field", "call", "new"), ("method", "get", "put"),
                                              ("class", "new"), ("class", "call")))
        told = pooled(house, "get", 0)
        self.assertEqual(told, (("new", 0), ("get", 1), ("call", 2), ("take", 0), ("cast", 3), ("give",)))
        self.assertEqual(unpooled(pool(house, "get"), told), code)
        self.assertEqual(link_table(house, "get"), (1, ("call", 0), ("get", 0), 3, 2))

    def test_codes_come_back(self):
        for seed in range(40):
            house = Maker(seed).house(14)
            for name, place in methods_in(house):
                row = [row for row in house.classes if row[0] == name][0]
                entries = pool(house, name)
                code = pooled(house, name, place)
                self.assertEqual(unpooled(entries, code), row[3][place][3])
                self.assertEqual(len(set(entries)), len(entries))
                for step, plain in zip(code, row[3][place][3]):
                    if plain[0] in KIND_OF_STEP:
                        self.assertEqual(entries[step[1]], (KIND_OF_STEP[plain[0]], *plain[1:]))
                    else:
                        self.assertEqual(step, plain)

    def test_pool_by_another_way(self):
        for seed in range(40):
            house = Maker(seed).house(14)
            for name, _, _, methods in house.classes:
                named = {}
                for method in methods:
                    for step in method[3]:
                        if step[0] in KIND_OF_STEP:
                            named[(KIND_OF_STEP[step[0]], *step[1:])] = True
                    named.update({("class", handler[2]): True for handler in method[4]})
                self.assertEqual(pool(house, name), tuple(named))

    def test_bad_names_and_places(self):
        for function, more in [(pool, ()), (pooled, (0,)), (link_table, ())]:
            self.strays_raise(BadName, lambda value: function(HOUSE, value, *more), STRAY + ["num", "gray"])
            self.strays_raise(NoHouse, lambda value: function(value, "egg", *more), strays(STRAY[-1]) + [FAMILY])
        self.strays_raise(BadPlace, lambda value: pooled(HOUSE, "egg", value), STRAY + [3, -1])
        self.strays_raise(BadPlace, lambda value: pooled(HOUSE, "top", value), STRAY + [0])
        self.raises(NoHouse, pooled, 1, 2, 3)
        self.raises(BadName, pooled, HOUSE, 2, 3)


class UnpooledTest(unittest.TestCase, Raising):
    def test_other_steps_stay_whatever_they_are(self):
        code = ((), ("push", [1]), ("odd", None, 5), (["new"], 0), (None,), ("New", 7), ("give", "new"), (("new", 0),))
        self.assertEqual(unpooled((), code), code)
        self.assertEqual(unpooled(POOL, code + (("new", 1),)), code + (("new", "box"),))

    def test_each_kind_of_entry(self):
        code = (("new", 0), ("cast", 1), ("is", 2), ("get", 3), ("put", 5), ("call", 4))
        self.assertEqual(unpooled(POOL, code), (("new", "red"), ("cast", "box"), ("is", "top"), ("get", "box", "x"),
                                                ("put", "red", "x"), ("call", "red", "show")))

    def test_pools_of_whichever_house_and_how_large(self):
        self.assertEqual(unpooled((), ()), ())
        large = (("class", "a"),) * 98 + (("method", "top", "zzzzzz"),)
        self.assertEqual(unpooled(large, (("call", 98),) * 20), (("call", "top", "zzzzzz"),) * 20)
        self.raises(BadPool, unpooled, large + (("class", "a"),), (), index=None)
        self.strays_raise(BadPool, lambda value: unpooled(value, ()), [])
        for value in NO_TUPLES:
            self.raises(BadPool, unpooled, value, (), index=None)

    def test_what_is_no_entry(self):
        wrong = [("class",), ("field",), ("method",), (), ("class", "a", "b"), ("field", "a"), ("method", "a"), ("field", "a", "b", "c"), ("a", "b"),
                 ("Class", "a"), ("class", "A"), ("class", "sevenly"), ("class", ""), ("field", "a", 1),
                 ("method", None, "a"), ("method", "a", ["b"]), ["class", "a"], "class", (["class"], "a"), ("class", 1)]
        for value in wrong + STRAY:
            self.raises(BadPool, unpooled, (("class", "a"), value, None), (), index=1)
            self.raises(BadPool, unpooled, (value,), None, index=0)

    def test_codes_that_are_none(self):
        for value in NO_TUPLES:
            self.raises(BadPooled, unpooled, POOL, value, step=None)
            self.raises(BadPooled, unpooled, POOL, (("new", 99), value), step=None)
        self.raises(BadPooled, unpooled, POOL, (("give",),) * 21, step=None)
        self.assertEqual(unpooled(POOL, (("give",),) * 20), (("give",),) * 20)

    def test_places_of_none_or_of_another_kind(self):
        wrong = [("new",), ("new", 0, 0), ("new", 10), ("new", -1), ("new", True), ("new", None), ("new", "red"),
                 ("new", 3), ("new", 4), ("get", 0), ("get", 4), ("put", 4), ("put", 1), ("call", 3), ("call", 0),
                 ("call", "red", "show"), ("get", "box", "x"), ("cast", 3), ("is", 4), ("cast",), ("is", [0]),
                 ("new", 0.0), ("call", (4,))]
        for step in wrong:
            self.raises(BadPooled, unpooled, POOL, (("new", 0), ("give",), step, ("new", 99)), step=2)
        self.raises(BadPooled, unpooled, (), (("new", 0),), step=0)
        for value in strays(0, 1, 2):
            self.raises(BadPooled, unpooled, POOL, (("is", value),), step=0)


class LinkedTest(unittest.TestCase, Raising):
    def test_classes(self):
        self.assertEqual([linked(HOUSE, ("class", name)) for name in ("top", "box", "red", "blue", "pink", "egg")],
                         [0, 1, 2, 3, 4, 5])

    def test_fields_of_upper_classes(self):
        self.assertEqual([linked(HOUSE, ("field", name, word)) for name, word in [
            ("box", "x"), ("box", "z"), ("red", "y"), ("red", "w"), ("pink", "w"), ("pink", "x"), ("egg", "x")]],
            [("box", 0), ("box", 2), ("box", 1), ("red", 3), ("red", 3), ("box", 0), ("egg", 0)])

    def test_methods_called_anew(self):
        self.assertEqual([linked(HOUSE, ("method", name, word)) for name, word in [
            ("box", "show"), ("pink", "show"), ("pink", "hop"), ("blue", "hop"), ("egg", "last")]],
            [("box", 0), ("red", 0), ("pink", 0), ("box", 1), ("egg", 2)])

    def test_link_table(self):
        self.assertEqual(link_table(HOUSE, "egg"), (2, 1, 0, ("box", 0), ("red", 0), ("box", 0), ("box", 0), 5, 4, 3))
        self.assertEqual([link_table(HOUSE, "red"), link_table(HOUSE, "top")], [(), ()])

    def test_links_of_made_houses(self):
        for seed in range(40):
            house = Maker(seed).house(12)
            for name in ["top"] + [row[0] for row in house.classes]:
                self.assertEqual(link_table(house, name), tuple(linked(house, entry) for entry in pool(house, name)))
                for slot, (word, _) in enumerate(fields_of(house, name)):
                    owner, found = linked(house, ("field", name, word))
                    self.assertEqual(found, slot)
                    row = [row for row in house.classes if row[0] == owner][0]
                    self.assertIn(word, [pair[0] for pair in row[2]])
                    self.assertIn(owner, uppers(house, name))
                    for below in [row[0] for row in house.classes if name in uppers(house, row[0])]:
                        self.assertEqual(linked(house, ("field", below, word)), (owner, slot))
                for word in ["show", "hop", "roll"]:
                    if method_of(house, name, word) is None:
                        self.raises(BadEntry, linked, house, ("method", name, word))
                    else:
                        self.assertEqual(linked(house, ("method", name, word)), method_of(house, name, word))

    def test_wrong_entries(self):
        wrong = [("class",), ("class", "gray"), ("class", "num"), ("class", "box", "x"), ("class", ["box"]),
                 ("field", "box"), ("field", "box", "w"), ("field", "top", "x"), ("field", "egg", "y"),
                 ("field", "box", "show"), ("field", "gray", "x"), ("field", "box", None), ("field", "box", ["x"]),
                 ("method", "box"), ("method", "box", "x"), ("method", "top", "show"), ("method", "egg", "show"),
                 ("method", "box", "roll"), ("method", "box", 1), ("method", "box", "show", 0), ["class", "box"],
                 ("Class", "box"), (["class"], "box"), ("new", "box"), ("call", "box", "show"), (None, "box")]
        self.strays_raise(BadEntry, lambda value: linked(HOUSE, value), wrong + STRAY)
        self.strays_raise(NoHouse, lambda value: linked(value, ("class", "top")), strays(STRAY[-1]) + [FAMILY])
        self.raises(NoHouse, linked, 1, 2)


if __name__ == "__main__":
    unittest.main()
