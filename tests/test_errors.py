"""The error classes: their base, their fields."""

import unittest

from laytogether import errors

FIELDS = {
    "BadTable": ("index",), "BadRow": (), "BadPerson": (), "BadGood": (), "BadLays": ("index",), "BadOrder": (),
    "BadGoods": (), "BadHeaps": ("index",), "BadLevels": (), "BadNumber": (), "NotTwo": (), "Alone": (),
    "NotLike": (), "NotOver": (), "BadText": (), "InvalidText": ("line", "word"), "BadLine": ("word",),
    "NothingToUndo": (), "TooMany": ("most",),
}


class Errors(unittest.TestCase):

    def test_base(self):
        self.assertEqual(errors.LayError.__bases__, (ValueError,))

    def test_all_are_there(self):
        found = {name for name, thing in vars(errors).items() if isinstance(thing, type)}
        self.assertEqual(found, {"LayError", *FIELDS})

    def test_direct_subclasses_with_their_fields(self):
        for name, fields in FIELDS.items():
            with self.subTest(name):
                made = getattr(errors, name)
                self.assertEqual(made.__bases__, (errors.LayError,))
                told = list(range(3, 3 + len(fields)))
                self.assertEqual(vars(made(*told)), dict(zip(fields, told)))
                self.assertEqual(vars(made(**dict(zip(fields, told)))), dict(zip(fields, told)))
                self.assertIsInstance(str(made(*told)), str)

    def test_a_field_may_be_none(self):
        self.assertIsNone(errors.BadTable(None).index)
        self.assertIsNone(errors.BadLays(None).index)
        self.assertIsNone(errors.BadHeaps(None).index)

    def test_one_is_not_caught_as_another(self):
        with self.assertRaises(errors.BadRow):
            try:
                raise errors.BadRow("no row")
            except (errors.BadTable, errors.BadPerson):
                self.fail("caught as another error")


if __name__ == "__main__":
    unittest.main()
