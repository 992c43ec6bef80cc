"""The refusals of wornpages.errors."""

import unittest

from wornpages import errors

WITH_TEXT = [
    "NoChip", "NoPlace", "PowerGone", "NoTerms", "NoSheet", "NoValue", "Full",
    "NoRoom", "WornOut", "NoRule", "NoRace", "NoPart", "NoRow",
]
WITH_PLACE = [("BlockFailed", "block"), ("NotClear", "page")]
ALL = WITH_TEXT + [name for name, field in WITH_PLACE]


class Errors(unittest.TestCase):
    def test_any_refusal_is_a_value_error(self):
        self.assertEqual(errors.WornError.__bases__, (ValueError,))

    def test_each_refusal_stands_straight_under_worn_error(self):
        self.assertEqual(len(ALL), 15)
        for name in ALL:
            with self.subTest(name):
                self.assertEqual(getattr(errors, name).__bases__, (errors.WornError,))

    def test_the_refusals_are_unlike(self):
        kinds = [getattr(errors, name) for name in ALL]
        for kind in kinds:
            self.assertEqual([other for other in kinds if issubclass(kind, other)], [kind])

    def test_each_class_bears_its_name(self):
        for name in ALL:
            self.assertEqual(getattr(errors, name).__name__, name)

    def test_made_with_a_text(self):
        for name in WITH_TEXT:
            with self.subTest(name):
                kind = getattr(errors, name)
                with self.assertRaises(kind):
                    raise kind("some words")
                self.assertIn("some words", str(kind("some words")))

    def test_made_with_a_place(self):
        for name, field in WITH_PLACE:
            for place in (0, 1, 15, 255):
                with self.subTest(name, place=place):
                    refusal = getattr(errors, name)(place)
                    self.assertEqual(getattr(refusal, field), place)
                    self.assertIsInstance(str(refusal), str)

    def test_made_with_a_named_place(self):
        self.assertEqual(errors.BlockFailed(block=3).block, 3)
        self.assertEqual(errors.NotClear(page=7).page, 7)


if __name__ == "__main__":
    unittest.main()
