import unittest

from ledquestions import errors

FIELDS = {
    "NoRules": ("number", 7), "Ring": ("names", ("a", "b")), "Clash": ("rows", (("a", "b"),)),
    "NoText": ("line", 3), "Broken": ("number", 2),
}
PLAIN = (
    "NoRows", "NoRow", "NoRule", "NoBook", "NoQuestion", "NoShorts", "NoStep", "TooMany", "TooGreat",
    "NotSure", "NoName", "Twice", "Missing", "NoDeeds", "NoDeed", "Nothing", "Long",
)
NAMES = tuple(FIELDS) + PLAIN


class Errors(unittest.TestCase):
    def test_ask_error_stands_right_under_value_error(self):
        self.assertEqual(errors.AskError.__bases__, (ValueError,))

    def test_each_other_one_stands_right_under_ask_error_and_under_no_other(self):
        for name in NAMES:
            with self.subTest(name):
                self.assertEqual(getattr(errors, name).__bases__, (errors.AskError,))
                self.assertEqual(getattr(errors, name).__name__, name)

    def test_none_is_another_one(self):
        self.assertEqual(len(NAMES), 22)
        self.assertEqual(len({id(getattr(errors, name)) for name in NAMES}), 22)

    def test_there_are_no_others(self):
        told = [x for x in vars(errors).values() if isinstance(x, type) and issubclass(x, BaseException)]
        self.assertEqual(sorted(x.__name__ for x in told), sorted(NAMES + ("AskError",)))

    def test_fields_are_set_on_each_object(self):
        for name, (field, value) in FIELDS.items():
            with self.subTest(name):
                made = getattr(errors, name)(value)
                self.assertEqual(vars(made), {field: value})
                self.assertIn(field, vars(getattr(errors, name)()))

    def test_the_others_are_made_of_a_text_and_have_no_fields(self):
        for name in PLAIN:
            with self.subTest(name):
                self.assertEqual(vars(getattr(errors, name)("why")), {})

    def test_each_can_be_raised_and_caught_as_any_refusal(self):
        for name in NAMES:
            with self.subTest(name):
                with self.assertRaises(errors.AskError):
                    raise getattr(errors, name)("why")


if __name__ == "__main__":
    unittest.main()
