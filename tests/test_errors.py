"""The errors of the package and their fields."""

import unittest

from livingclock import errors
from livingclock.errors import BadClock, BadLine, BadPlan, ClockError, TooMany

PLAIN = (
    "BadWheel", "BadEdition", "BadTick", "BadExchange", "NotLeaning", "BadRow", "NotAlike", "BadNumber", "NoPlan",
    "BadChoice", "BadStanding", "BadStep", "BadPrices", "BadOrder", "BadString", "BadPhase", "NotSure", "BadWatch",
    "BadNews", "BadTolls", "BadRatio", "BadDuty",
)
WITH_FIELDS = ("BadClock", "BadPlan", "TooMany", "BadLine")


class ErrorsTest(unittest.TestCase):

    def test_all_are_direct_subclasses(self):
        self.assertEqual(ClockError.__bases__, (ValueError,))
        for name in PLAIN + WITH_FIELDS:
            self.assertEqual(getattr(errors, name).__bases__, (ClockError,), name)
            self.assertEqual(getattr(errors, name).__module__, "livingclock.errors")

    def test_there_are_no_others(self):
        told = {name for name in vars(errors) if isinstance(getattr(errors, name), type)}
        self.assertEqual(told, set(PLAIN + WITH_FIELDS + ("ClockError",)))

    def test_plain_ones_have_no_fields(self):
        for name in PLAIN:
            self.assertEqual(vars(getattr(errors, name)()), {})

    def test_fields(self):
        self.assertEqual(vars(BadClock("gaps")), {"part": "gaps"})
        self.assertEqual(vars(BadClock(part="book")), {"part": "book"})
        self.assertEqual(vars(BadPlan(3)), {"wheel": 3})
        self.assertEqual(vars(BadPlan(wheel=None)), {"wheel": None})
        self.assertEqual(vars(TooMany(4000)), {"most": 4000})
        self.assertEqual(vars(TooMany(most=12)), {"most": 12})
        self.assertEqual(vars(BadLine(1, 2)), {"line": 1, "word": 2})
        self.assertEqual(vars(BadLine(line=3, word=4)), {"line": 3, "word": 4})

    def test_messages_tell_the_fields(self):
        self.assertIn("gaps", str(BadClock("gaps")))
        self.assertIn("3", str(BadPlan(3)))
        self.assertIn("4000", str(TooMany(4000)))
        self.assertIn("7", str(BadLine(7, 2)))
