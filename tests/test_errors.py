"""The classes of changewhile/errors.py."""

import unittest

from changewhile import errors

NAMES = ["NoText", "NotRight", "Stuck", "NoFit", "NoLead", "NotNow"]


class Classes(unittest.TestCase):
    def test_change_error_stands_under_value_error(self):
        self.assertTrue(issubclass(errors.ChangeError, ValueError))

    def test_each_stands_under_change_error(self):
        for name in NAMES:
            self.assertTrue(issubclass(getattr(errors, name), errors.ChangeError), name)
            self.assertIsNot(getattr(errors, name), errors.ChangeError)

    def test_none_stands_under_another(self):
        for name in NAMES:
            for other in NAMES:
                if name != other:
                    self.assertFalse(issubclass(getattr(errors, name), getattr(errors, other)), (name, other))

    def test_each_is_defined_there_under_its_name(self):
        for name in NAMES + ["ChangeError"]:
            self.assertEqual(getattr(errors, name).__name__, name)
            self.assertEqual(getattr(errors, name).__module__, "changewhile.errors")


class Values(unittest.TestCase):
    def values_of(self, error):
        self.assertIsInstance(error, errors.ChangeError)
        return {key: value for key, value in vars(error).items()}

    def test_each_has_its_values_from_the_beginning(self):
        self.assertEqual(self.values_of(errors.NotRight("sum", 3)), {"name": "sum", "row": 3})
        self.assertEqual(self.values_of(errors.NotRight("pair", -1)), {"name": "pair", "row": -1})
        self.assertEqual(self.values_of(errors.Stuck("run", 0)), {"name": "run", "row": 0})
        self.assertEqual(self.values_of(errors.NoFit("old")), {"name": "old"})
        self.assertEqual(self.values_of(errors.NoLead("pair", "a")), {"name": "pair", "field": "a"})
        self.assertEqual(self.values_of(errors.NoLead("count", "")), {"name": "count", "field": ""})
        self.assertEqual(self.values_of(errors.NotNow(2, 5)), {"frame": 2, "row": 5})
        self.assertEqual(self.values_of(errors.NoText("why")), {})

    def test_each_object_has_its_own(self):
        first = errors.NotRight("a", 1)
        second = errors.NotRight("b", 2)
        self.assertEqual((first.name, first.row, second.name, second.row), ("a", 1, "b", 2))

    def test_each_is_raised_and_caught_by_its_name(self):
        for error in [errors.NotRight("a", 1), errors.Stuck("a", 1), errors.NoFit("a"),
                      errors.NoLead("a", "b"), errors.NotNow(0, 1), errors.NoText("a")]:
            with self.assertRaises(error.__class__) as caught:
                raise error
            self.assertIs(caught.exception, error)


if __name__ == "__main__":
    unittest.main()
