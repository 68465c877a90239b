"""The errors of the interface."""

import unittest

from ebbkeep.errors import EbbError, InvalidRow, InvalidSetting, InvalidTariff, Malformed, NotFound


class Errors(unittest.TestCase):
    def test_base_class_is_a_value_error(self):
        self.assertTrue(issubclass(EbbError, ValueError))

    def test_every_error_is_an_ebb_error(self):
        for kind in (Malformed, InvalidSetting, InvalidTariff, InvalidRow, NotFound):
            self.assertTrue(issubclass(kind, EbbError), kind)
            self.assertEqual(kind.__bases__, (EbbError,))

    def test_no_error_is_another_one(self):
        kinds = (Malformed, InvalidSetting, InvalidTariff, InvalidRow, NotFound)
        for kind in kinds:
            for other in kinds:
                self.assertEqual(issubclass(kind, other), kind is other)

    def test_malformed_has_its_line(self):
        for line in (0, 1, 20, 10**30):
            self.assertEqual(Malformed(line).line, line)
            self.assertEqual(Malformed(line=line).line, line)

    def test_others_are_created_without_arguments(self):
        for kind in (InvalidSetting, InvalidTariff, InvalidRow, NotFound):
            self.assertIsInstance(kind(), EbbError)


if __name__ == "__main__":
    unittest.main()
