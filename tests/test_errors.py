"""The error classes: those of all stages, with their fields."""

import unittest

from helpers import Raising  # noqa: F401  (sets the path)

from classhouse import errors

FIELDS = {
    "BadClasses": ("index",), "BadFields": ("index",), "BadMethods": ("index", "place"),
    "BadCode": ("index", "place", "step"), "BadHandlers": ("index", "place", "row"),
    "NoHouse": (), "BadName": (), "BadKind": (), "BadWord": (), "InvalidText": ("line", "word"), "NoText": (),
    "TooMany": ("most",), "NotSeen": (), "BadIns": (), "BadCount": (), "TooLong": ("most",), "BadPlace": (),
    "BadStep": (), "BadFrame": (), "BadRoad": ("index",), "BadTold": ("index",), "BadPool": ("index",),
    "BadPooled": ("step",), "BadEntry": (), "BadLoaded": (), "BadStock": (), "BadUses": ("index",), "NotGrown": (),
    "BadSlot": (), "BadChoice": ("index",), "BadKinds": (), "NotOwn": (), "BadWords": (), "BadNames": (),
    "BadSize": (), "BadNesting": (), "BadDeeds": (), "BadPile": ("index",), "BadRows": ("index",), "NoMethod": (),
    "NotPlain": (), "BadHands": ("hand", "place"), "BadTurns": ("index",), "BadBody": ("index", "place"),
    "NoBook": (), "BadValues": (), "NotNumbers": (), "TooLarge": ("index", "place"), "BadPass": (),
    "BadRowOfNames": ("index",), "BadHeap": ("index",), "BadRoots": (), "BadLump": (), "BadLog": ("index",),
    "BadSpot": (),
}


class ErrorsTest(unittest.TestCase):
    def test_base_is_a_value_error(self):
        self.assertEqual(errors.ClassError.__bases__, (ValueError,))

    def test_all_errors_are_direct_subclasses(self):
        for name in FIELDS:
            self.assertEqual(getattr(errors, name).__bases__, (errors.ClassError,), name)

    def test_there_are_no_others(self):
        found = [name for name, value in vars(errors).items() if isinstance(value, type)]
        self.assertEqual(sorted(found), sorted([*FIELDS, "ClassError"]))

    def test_fields_are_set_in_their_order(self):
        for name, fields in FIELDS.items():
            values = list(range(7, 7 + len(fields)))
            error = getattr(errors, name)(*values)
            self.assertEqual(vars(error), dict(zip(fields, values)), name)

    def test_fields_may_be_none_and_messages_are_strings(self):
        for name, fields in FIELDS.items():
            error = getattr(errors, name)(*[None for _ in fields])
            self.assertEqual(vars(error), dict.fromkeys(fields), name)
            self.assertIsInstance(str(error), str)


if __name__ == "__main__":
    unittest.main()
