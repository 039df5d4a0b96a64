import unittest

from staged import errors

WITHOUT_FIELDS = (
    "BadProgram", "BadName", "BadExpression", "BadNumber", "BadLates", "BadFuel", "BadPoint", "BadPlain", "NotEnding",
    "BadIndex", "NotSwapped", "NotLifted", "Unsound", "NotText", "InvalidText",
)
WITH_FIELDS = (("BadCode", "index"), ("Stuck", "address"), ("TooMany", "most"))


class ErrorsTest(unittest.TestCase):
    def test_base_class_is_a_value_error(self):
        self.assertEqual(errors.StageError.__bases__, (ValueError,))

    def test_each_error_is_a_direct_subclass(self):
        for name in WITHOUT_FIELDS + tuple(name for name, _ in WITH_FIELDS):
            with self.subTest(name):
                self.assertEqual(getattr(errors, name).__bases__, (errors.StageError,))
                self.assertEqual(getattr(errors, name).__module__, "staged.errors")

    def test_errors_without_fields_can_be_made(self):
        for name in WITHOUT_FIELDS:
            with self.subTest(name):
                self.assertIsInstance(getattr(errors, name)(), errors.StageError)
                self.assertEqual(str(getattr(errors, name)("why")), "why")

    def test_fields_are_set_on_creation(self):
        for name, field in WITH_FIELDS:
            for value in (0, 7, 100000, None):
                with self.subTest(name, value=value):
                    self.assertEqual(vars(getattr(errors, name)(value)), {field: value})

    def test_fields_are_read_off_a_caught_error(self):
        for name, field in WITH_FIELDS:
            with self.subTest(name):
                with self.assertRaises(errors.StageError) as caught:
                    raise getattr(errors, name)(300)
                self.assertEqual(getattr(caught.exception, field), 300)

    def test_fields_must_be_given(self):
        for name, _ in WITH_FIELDS:
            with self.subTest(name), self.assertRaises(TypeError):
                getattr(errors, name)()


if __name__ == "__main__":
    unittest.main()
