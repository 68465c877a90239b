"""The decimal forms of integers."""

import unittest

from ebbkeep.integers import read_number, read_numbers, rounded_up, write_numbers


class Numbers(unittest.TestCase):
    def test_right_forms(self):
        for number in (0, 1, 9, 10, 90, 100, 1000000, 999999999):
            self.assertEqual(read_number(str(number)), number)

    def test_wrong_forms(self):
        for word in ("", " ", "00", "01", "007", "+1", "-1", "-0", "1 ", " 1", "1_0", "1.0", "x", "1x", "\u0663",
                     "\u00b2", "1\n", "1" * 10, "1" * 5000):
            self.assertIsNone(read_number(word), word)

    def test_several(self):
        self.assertEqual(read_numbers(["0", "12"]), [0, 12])
        self.assertEqual(read_numbers([]), [])
        self.assertIsNone(read_numbers(["0", "", "12"]))
        self.assertEqual(write_numbers((0, 12)), ["0", "12"])

    def test_quotients_rounded_up(self):
        self.assertEqual([rounded_up(number, 4) for number in (0, 1, 4, 5, 8, 9)], [0, 1, 1, 2, 2, 3])


if __name__ == "__main__":
    unittest.main()
