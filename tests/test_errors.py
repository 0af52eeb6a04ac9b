"""Promise [20]: the errors, and [4] as far as it speaks of them."""

import unittest

from farapart import errors

FIELDS = {
    "Wrong": ["place"], "NoName": ["name"], "BadKind": ["name"], "NoPlace": ["place"], "NoWay": ["index"],
    "NoProc": ["name"], "BadCall": ["name", "index"], "NoStart": [], "Unlike": [], "NotFar": ["name"],
    "BadRow": ["row"], "NotSo": ["row"], "TooMany": ["most"], "Never": [], "Endless": [], "NoEntry": ["many"],
    "NoDeed": [], "Full": ["most"], "Refused": ["deed"], "Nothing": [], "NoText": [], "NoCommand": [],
}


class ErrorsTest(unittest.TestCase):
    def test_classes_are_those_of_the_interface(self):
        found = [name for name, thing in vars(errors).items() if isinstance(thing, type)]
        self.assertEqual(sorted(found), sorted(["ApartError"] + list(FIELDS)))

    def test_bases(self):
        self.assertEqual(errors.ApartError.__bases__, (ValueError,))
        for name in FIELDS:
            self.assertEqual(getattr(errors, name).__bases__, (errors.ApartError,), name)

    def test_fields_are_the_very_objects_of_any_kind(self):
        things = [None, True, 0, -1, 10 ** 5000, "", "a", b"a", (), [], {}, {1}, [[{}]], object(), object, len, 3j]
        for name, fields in FIELDS.items():
            for thing in things:
                other = [thing]
                given = [thing, other][:len(fields)]
                error = getattr(errors, name)(*given)
                for field, value in zip(fields, given):
                    self.assertIs(getattr(error, field), value)
                self.assertEqual(sorted(vars(error)), sorted(fields))

    def test_a_list_changed_behind_is_seen_in_the_field(self):
        for name, fields in FIELDS.items():
            given = [[] for _ in fields]
            error = getattr(errors, name)(*given)
            for field, value in zip(fields, given):
                value.append(field)
                self.assertEqual(getattr(error, field), [field])

    def test_as_many_arguments_as_fields(self):
        for name, fields in FIELDS.items():
            if fields:
                self.assertRaises(TypeError, getattr(errors, name))
                self.assertRaises(TypeError, getattr(errors, name), 1, 2, 3)

    def test_raised_and_caught(self):
        for name, fields in FIELDS.items():
            made = getattr(errors, name)
            with self.assertRaises(errors.ApartError) as caught:
                raise made(*[7 for _ in fields])
            self.assertEqual([getattr(caught.exception, field) for field in fields], [7 for _ in fields])


if __name__ == "__main__":
    unittest.main()
