import unittest

from fromruns import errors

WITH = {
    "NotClosed": ("fault", ("", "a", "", "b", "ab")),
    "Clash": ("run", "ab"),
    "KnownRun": ("run", ""),
    "UnknownRun": ("run", "b"),
    "BadMerge": ("position", 3),
    "BadLine": ("line", 1),
    "BadPattern": ("position", 0),
    "UnknownCase": ("case", -4),
    "OpenCase": ("case", 12),
}
BARE = ("NothingToUndo", "BadText")


class Errors(unittest.TestCase):
    def test_base_class_is_a_value_error(self):
        self.assertEqual(errors.FromrunsError.__bases__, (ValueError,))

    def test_each_error_has_the_base_class_and_no_other_one(self):
        for name in [*WITH, *BARE]:
            self.assertEqual(getattr(errors, name).__bases__, (errors.FromrunsError,), name)

    def test_none_is_a_base_class_of_another_one(self):
        for name in [*WITH, *BARE]:
            for other in [*WITH, *BARE]:
                if name != other:
                    self.assertFalse(issubclass(getattr(errors, name), getattr(errors, other)))

    def test_attributes(self):
        for name, (attribute, value) in WITH.items():
            error = getattr(errors, name)(value)
            self.assertEqual(getattr(error, attribute), value)
            self.assertEqual(vars(error), {attribute: value})

    def test_errors_without_attributes(self):
        for name in BARE:
            self.assertEqual(vars(getattr(errors, name)()), {})

    def test_each_is_caught_by_the_base_class_with_its_attribute(self):
        for name, (attribute, value) in WITH.items():
            with self.assertRaises(errors.FromrunsError) as caught:
                raise getattr(errors, name)(value)
            self.assertEqual(getattr(caught.exception, attribute), value)

    def test_they_are_defined_in_their_file(self):
        for name in ["FromrunsError", *WITH, *BARE]:
            self.assertEqual(getattr(errors, name).__module__, "fromruns.errors")


if __name__ == "__main__":
    unittest.main()
