import unittest

from recordcraft import errors

FIELDS = {
    "InvalidMember": ("rule", "item"),
    "InvalidKind": ("rule", "item"),
    "InvalidAnswer": ("part",),
    "TooManyValues": ("limit",),
    "UnknownName": ("name",),
    "GivenTwice": ("name",),
    "MissingNames": ("names",),
    "NoField": ("name",),
    "Unset": ("name",),
    "Frozen": ("name",),
    "NoShared": ("name",),
    "NoMethod": ("name",),
    "NotInLine": ("value",),
    "NotOrdered": (),
    "NotKeyable": (),
    "TooDeep": (),
    "NoEntry": ("value",),
    "InvalidBook": ("spot",),
    "NoKind": ("name",),
    "InvalidData": ("path",),
    "InvalidName": ("value",),
    "NameTaken": ("name",),
    "NoRecord": ("name",),
    "Duplicate": ("name",),
    "LimitExceeded": ("limit",),
    "NothingToUndo": (),
    "ParseError": ("line", "word"),
}


class ErrorsTest(unittest.TestCase):
    def test_base_class(self):
        self.assertEqual(errors.RecordcraftError.__bases__, (ValueError,))

    def test_all_are_direct_subclasses(self):
        for name in FIELDS:
            with self.subTest(name):
                self.assertEqual(getattr(errors, name).__bases__, (errors.RecordcraftError,))
                self.assertEqual(getattr(errors, name).__module__, "recordcraft.errors")

    def test_there_are_no_others(self):
        found = [name for name in vars(errors) if isinstance(getattr(errors, name), type)]
        self.assertEqual(sorted(found), sorted([*FIELDS, "RecordcraftError"]))

    def test_fields_are_the_very_objects_by_position_and_by_name(self):
        for name, fields in FIELDS.items():
            with self.subTest(name):
                values = [object() for _ in fields]
                by_position = getattr(errors, name)(*values)
                by_name = getattr(errors, name)(**dict(zip(fields, values)))
                for field, value in zip(fields, values):
                    self.assertIs(getattr(by_position, field), value)
                    self.assertIs(getattr(by_name, field), value)

    def test_item_can_be_left_out(self):
        self.assertIsNone(errors.InvalidMember("name").item)
        self.assertIsNone(errors.InvalidKind("size").item)

    def test_other_fields_cannot_be_left_out(self):
        for name, fields in FIELDS.items():
            if fields:
                with self.subTest(name), self.assertRaises(TypeError):
                    getattr(errors, name)()
