import unittest

from nearreach import errors

NAMES = [
    "NoWord", "NoShape", "NoBook", "TooHeavy", "NoPlace", "NoTable", "NoText", "TooMany",
    "Closed", "Stopped", "Unlike", "NoModes", "NoQuote", "NoLine",
]


class ErrorsTest(unittest.TestCase):
    def test_all_refusals_stand_straight_under_the_one(self):
        self.assertEqual(errors.ReachError.__bases__, (ValueError,))
        for name in NAMES:
            self.assertEqual(getattr(errors, name).__bases__, (errors.ReachError,), name)

    def test_there_are_fourteen_unlike_ones(self):
        self.assertEqual(len({getattr(errors, name) for name in NAMES}), 14)
        found = [x for x in vars(errors).values() if isinstance(x, type) and issubclass(x, errors.ReachError)]
        self.assertEqual(len(found), 15)

    def test_no_line_has_its_line(self):
        for line in (1, 7, 10 ** 20):
            with self.assertRaises(errors.ReachError) as caught:
                raise errors.NoLine(line)
            self.assertEqual(caught.exception.line, line)
