import unittest

from orderpairs import errors

DIRECT = ["BadChange", "BadWorld", "BadName", "BadStore", "BadOrder", "BadPolicy", "NotEnough", "BadTable", "BadCosts",
          "BadReplica", "BadText"]


class ErrorClasses(unittest.TestCase):
    def test_the_base_class_is_a_value_error(self):
        self.assertEqual(errors.OrderError.__bases__, (ValueError,))

    def test_all_others_are_direct_subclasses(self):
        for name in DIRECT:
            self.assertEqual(getattr(errors, name).__bases__, (errors.OrderError,), name)
        self.assertEqual(sorted(DIRECT), sorted(sub.__name__ for sub in errors.OrderError.__subclasses__()))

    def test_all_are_defined_in_this_file(self):
        for name in DIRECT + ["OrderError"]:
            self.assertEqual(getattr(errors, name).__module__, "orderpairs.errors")

    def test_the_attributes_are_set_on_creation(self):
        self.assertEqual(errors.BadWorld("SLOTS").part, "SLOTS")
        self.assertIsNone(errors.BadWorld(None).part)
        self.assertEqual(errors.BadText(3).row, 3)


if __name__ == "__main__":
    unittest.main()
