import unittest

from ledquestions import bounds

VALUES = {
    "RULES": 24, "SOMES": 4, "ROWS": 40, "THINGS": 12, "ATOMS": 5, "UNKNOWNS": 4, "SHORTS": 6,
    "LOT": 40, "DEPTH": 3, "GROWN": 400, "ASKED": 8, "DEEDS": 100, "LINES": 400,
}


class Bounds(unittest.TestCase):
    def test_each_bound_is_a_whole_number_of_its_value(self):
        for name, value in VALUES.items():
            with self.subTest(name):
                self.assertIs(type(getattr(bounds, name)), int)
                self.assertEqual(getattr(bounds, name), value)

    def test_none_is_the_tuple_without_parts(self):
        self.assertIs(type(bounds.NONE), tuple)
        self.assertEqual(bounds.NONE, ())


if __name__ == "__main__":
    unittest.main()
