import unittest

from latekinds import errors

FIELDS = {
    "BadBook": ("at",), "NoKind": (), "BadKind": (), "NoNumber": (), "NoOrder": (), "TooMany": ("most",),
    "NoScheme": (), "NoDealing": (), "NotTree": ("at",), "NoName": (), "NoClauses": (), "NoFields": (),
    "NoLaying": (), "NothingDone": (), "BadText": ("line",), "NoLine": (), "NoBook": ("name",), "NoProgram": (),
    "NoObject": (), "NothingWhole": (),
}

THINGS = [
    0, -1, 7, 10 ** 79, "", "word", "two\nlines", None, True, False, (), (1, "a", None), ((), ((), (1,))), [], [1, [2]],
    {}, {"a": {"b": [()]}}, b"x", len, ValueError, object(),
]


class Errors(unittest.TestCase):
    def test_bases(self):
        self.assertEqual(errors.KindError.__bases__, (ValueError,))
        for name in FIELDS:
            self.assertEqual(getattr(errors, name).__bases__, (errors.KindError,), name)

    def test_all_that_are_listed_and_no_others(self):
        found = [name for name in vars(errors) if isinstance(getattr(errors, name), type)]
        self.assertEqual(sorted(found), sorted([*FIELDS, "KindError"]))
        for name in FIELDS:
            self.assertEqual(getattr(errors, name).__name__, name)
            self.assertEqual(getattr(errors, name).__module__, "latekinds.errors")

    def test_fields_keep_whatever_is_passed(self):
        for name, fields in FIELDS.items():
            for thing in THINGS:
                error = getattr(errors, name)(*[thing for _ in fields])
                self.assertEqual(sorted(vars(error)), sorted(fields))
                for field in fields:
                    self.assertIs(getattr(error, field), thing)

    def test_made_with_just_the_fields(self):
        for name, fields in FIELDS.items():
            for many in range(4):
                if many == len(fields):
                    continue
                with self.assertRaises(TypeError, msg=name):
                    getattr(errors, name)(*range(many))

    def test_raised_and_caught_as_a_value_error(self):
        for name, fields in FIELDS.items():
            with self.assertRaises(ValueError):
                raise getattr(errors, name)(*[3 for _ in fields])
            with self.assertRaises(errors.KindError):
                raise getattr(errors, name)(*[3 for _ in fields])

    def test_equal_to_nothing_else(self):
        self.assertNotEqual(errors.NoKind(), errors.BadKind())
        self.assertNotEqual(errors.BadBook(1), 1)
        self.assertNotEqual(errors.BadBook(1), errors.NotTree(1))


if __name__ == "__main__":
    unittest.main()
