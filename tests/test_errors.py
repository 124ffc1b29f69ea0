"""The errors of the interface: their places, values and attributes."""

import unittest

from pastlooks import errors
from support import BIG, PastTest, nested_list

WITH_VALUE = {"BadName": "name", "BadMoment": "value", "BadBound": "value", "BadTerm": "value", "BadWay": "way",
              "BadPath": "path", "BadWorld": "value", "BadRows": "name", "BadFact": "place", "BadText": "place",
              "Unknown": "name"}
ALONE = ["TooMany", "NoPaper"]
NO_PAPERS = ["Unlike", "NotCovered", "NotMost", "NotSettled"]


class Errors(PastTest):

    def test_the_base_class_is_a_value_error(self):
        self.assertEqual(errors.PastError.__bases__, (ValueError,))

    def test_the_classes_directly_under_the_base_class(self):
        for name in [*WITH_VALUE, *ALONE]:
            self.assertEqual(getattr(errors, name).__bases__, (errors.PastError,), name)

    def test_the_classes_directly_under_no_paper(self):
        for name in NO_PAPERS:
            self.assertEqual(getattr(errors, name).__bases__, (errors.NoPaper,), name)

    def test_no_other_class_stands_under_another_one(self):
        names = [*WITH_VALUE, *ALONE, *NO_PAPERS]
        for one in names:
            for other in names:
                under = one == other or (other == "NoPaper" and one in NO_PAPERS)
                self.assertEqual(issubclass(getattr(errors, one), getattr(errors, other)), under, (one, other))

    def test_each_class_is_defined_in_this_file(self):
        for name in ["PastError", *WITH_VALUE, *ALONE, *NO_PAPERS]:
            self.assertEqual(getattr(errors, name).__module__, "pastlooks.errors")
            self.assertEqual(getattr(errors, name).__name__, name)

    def test_the_value_is_kept_in_the_attribute(self):
        for name in WITH_VALUE:
            for value in ["x", "", 7, -1, BIG, None, True, [1], (1, 2), {"a": 1}, nested_list(5000)]:
                self.assertIs(getattr(getattr(errors, name)(value), WITH_VALUE[name]), value)

    def test_errors_without_a_value(self):
        for name in [*ALONE, *NO_PAPERS]:
            self.assertIsInstance(getattr(errors, name)(), errors.PastError)

    def test_each_error_can_be_caught_as_a_value_error(self):
        for name in [*ALONE, *NO_PAPERS]:
            with self.assertRaises(ValueError):
                raise getattr(errors, name)()


if __name__ == "__main__":
    unittest.main()
