import unittest

from samples import any_values
from shoeparty import errors

FIELDS = {
    "TooLarge": ["bound"], "BadShelf": ["value"], "TooManyPairs": [], "Missing": ["size"], "BadFoot": ["value"],
    "BadHall": ["error"], "Busy": [], "TooManyEdits": [], "TooManyGuests": [], "LastGuest": [],
    "BadSize": ["value"], "NothingToUndo": [], "BadEdits": [], "BadEdit": ["index"], "Rejected": ["index"],
    "BadNumber": ["value"], "TooFewServed": ["number"], "BadText": ["index"],
}
LOOKUPS = {"NoPlace": ["value"], "NoGuest": ["value"], "NoPair": ["value"], "NoVersion": ["value"]}
ALL = {**FIELDS, **LOOKUPS}


class ErrorsTest(unittest.TestCase):
    def test_the_fields_are_the_very_objects_that_were_passed(self):
        for name, fields in ALL.items():
            for value in [*any_values(), object()]:
                error = getattr(errors, name)(*[value for _ in fields])
                with self.subTest(name, value=value):
                    self.assertEqual(sorted(vars(error)), sorted(fields))
                    for field in fields:
                        self.assertIs(getattr(error, field), value)

    def test_as_many_fields_as_listed(self):
        for name, fields in ALL.items():
            if fields:
                with self.subTest(name):
                    self.assertRaises(TypeError, getattr(errors, name))
                    self.assertRaises(TypeError, getattr(errors, name), 1, 2)

    def test_bases(self):
        self.assertTrue(issubclass(errors.PartyError, ValueError))
        self.assertFalse(issubclass(errors.PartyError, LookupError))
        for name in FIELDS:
            with self.subTest(name):
                self.assertTrue(issubclass(getattr(errors, name), errors.PartyError))
                self.assertFalse(issubclass(getattr(errors, name), LookupError))
        for name in LOOKUPS:
            with self.subTest(name):
                self.assertTrue(issubclass(getattr(errors, name), LookupError))
                self.assertFalse(issubclass(getattr(errors, name), ValueError))

    def test_none_derives_from_another_one(self):
        classes = [getattr(errors, name) for name in ALL]
        self.assertEqual(len(classes), 22)
        for one in classes:
            for other in classes:
                self.assertEqual(issubclass(one, other), one is other, (one, other))

    def test_raised_and_caught_by_name(self):
        for name, fields in ALL.items():
            error = getattr(errors, name)(*[(None, "feet") for _ in fields])
            with self.subTest(name), self.assertRaises(getattr(errors, name)) as caught:
                raise error
            self.assertIs(caught.exception, error)
            self.assertIsInstance(str(error), str)


if __name__ == "__main__":
    unittest.main()
