"""The interface of livecopy.errors."""

import unittest

from livecopy import errors

FIELDS = {
    "BadCell": ["cell"], "EmptyPatch": [], "DuplicateCell": ["cell"], "UnknownPatch": ["number"],
    "BadSize": ["size"], "Conflict": ["first", "second"], "NotAVersion": ["version"],
    "NotInside": ["low", "high"], "TooMany": ["limit"], "NotATree": ["first", "second"],
    "CannotToggle": ["number", "reason", "other"], "CopyPinned": [], "NotPinned": [], "BadOrder": ["index"],
    "NoVersions": [], "BadRequest": ["index"], "BadPrice": ["price"], "BadPlan": ["index"],
    "BadCount": ["count"], "WishClash": ["number"], "BadWish": ["index"], "BadStretch": ["stretch"],
    "PriceClash": ["first", "second", "multiple"], "NotRelated": ["first", "second"],
    "NoClash": ["first", "second"], "CheapOn": ["first", "second"], "BadCounter": ["number", "index"],
    "NotBest": ["gap"], "BadState": ["place"], "BadEvent": ["index"], "BadBound": ["bound"],
    "BoundClash": ["first", "second"], "BadRule": ["index"], "StreamClosed": [], "BadIndex": ["index"],
    "BadProcedure": ["name"], "BadStatement": ["number"], "BadTurn": ["index"], "BadLine": ["line"],
    "BadName": ["name"], "UnknownName": ["name"], "NothingToUndo": [], "BadPlace": ["place"],
    "BadDeed": ["index"],
}


class ErrorsTest(unittest.TestCase):

    def test_each_class_has_its_arguments_as_fields(self):
        for name, fields in FIELDS.items():
            with self.subTest(name=name):
                values = [("value", place) for place in range(len(fields))]
                error = getattr(errors, name)(*values)
                self.assertEqual(vars(error), dict(zip(fields, values)))

    def test_each_class_takes_exactly_its_arguments(self):
        for name, fields in FIELDS.items():
            if fields:
                with self.subTest(name=name):
                    with self.assertRaises(TypeError):
                        getattr(errors, name)(*fields[1:])
                    with self.assertRaises(TypeError):
                        getattr(errors, name)(*fields, 1)

    def test_all_are_direct_subclasses_of_the_base_class(self):
        self.assertEqual(errors.LivecopyError.__bases__, (ValueError,))
        for name in FIELDS:
            with self.subTest(name=name):
                self.assertEqual(getattr(errors, name).__bases__, (errors.LivecopyError,))

    def test_there_are_no_other_classes(self):
        classes = {name for name, value in vars(errors).items() if isinstance(value, type)}
        self.assertEqual(classes, set(FIELDS) | {"LivecopyError"})

    def test_a_field_may_be_any_integer(self):
        huge = 10 ** 9999
        self.assertEqual(errors.BadCell(huge).cell, huge)
        self.assertEqual(errors.NotAVersion((huge,)).version, (huge,))


if __name__ == "__main__":
    unittest.main()
