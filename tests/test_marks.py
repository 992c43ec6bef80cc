"""Point 20: marks, and bits of sheets."""

import unittest

from tests.helper import HUGE, NOT_WHOLE, arguments_of
from wornpages.marks import ROLL, bits_of, is_sheet, mark_of, name_of, sheets_of, stamp_of

STAMPS = [1, 2, 63, 64, 127, 128, 129, 10 ** 6, 2 ** 64, 10 ** 30 + 7, 10 ** 39, 10 ** 40 - 1]

LISTS = [
    ([], 0),
    ([0], 1),
    ([1], 2),
    ([63], 9223372036854775808),
    ([0, 1, 2], 7),
    ([5, 0, 3], 41),
    ([3, 5, 0], 41),
    ([4, 4, 4], 16),
    ([2, 0, 2, 0, 2], 5),
    ([63, 0, 62], 13835058055282163713),
    (list(range(64)), 18446744073709551615),
    (list(range(63, -1, -1)) * 3, 18446744073709551615),
]


class Marks(unittest.TestCase):
    def test_roll(self):
        self.assertEqual(ROLL, 64)
        self.assertIs(ROLL.__class__, int)

    def test_sheets(self):
        for sheet in range(64):
            self.assertIs(is_sheet(sheet), True)
        for thing in [-1, ROLL, 65, 127, HUGE, -HUGE] + NOT_WHOLE:
            self.assertIs(is_sheet(thing), False)

    def test_arguments(self):
        self.assertEqual(arguments_of(mark_of), ["stamp", "name"])
        self.assertEqual(arguments_of(stamp_of), ["mark"])
        self.assertEqual(arguments_of(name_of), ["mark"])

    def test_some_marks(self):
        for stamp, name, mark in [(1, 0, 128), (1, 5, 133), (1, 64, 192), (2, 63, 319), (1000, 64, 128064)]:
            self.assertEqual(mark_of(stamp, name), mark)
            self.assertEqual((stamp_of(mark), name_of(mark)), (stamp, name))

    def test_every_name_with_stamps_up_to_forty_figures(self):
        for stamp in STAMPS:
            for name in range(65):
                mark = mark_of(stamp, name)
                self.assertEqual(mark, stamp * 128 + name)
                self.assertEqual((stamp_of(mark), name_of(mark)), (stamp, name))

    def test_unlike_pairs_have_unlike_marks(self):
        marks = [mark_of(stamp, name) for stamp in range(1, 200) for name in range(65)]
        self.assertEqual(marks, sorted(set(marks)))

    def test_kinds(self):
        for mark in [128, 192, mark_of(10 ** 39, 64)]:
            self.assertEqual([told.__class__ for told in [mark, stamp_of(mark), name_of(mark)]], [int, int, int])


class Bits(unittest.TestCase):
    def test_arguments(self):
        self.assertEqual(arguments_of(bits_of), ["sheets"])
        self.assertEqual(arguments_of(sheets_of), ["bits"])

    def test_bits_of_lists(self):
        for sheets, bits in LISTS:
            self.assertEqual(bits_of(sheets), bits)
            self.assertIs(bits_of(sheets).__class__, int)

    def test_sheets_of_bits(self):
        for sheets, bits in LISTS:
            self.assertEqual(sheets_of(bits), sorted(set(sheets)))
            self.assertIs(sheets_of(bits).__class__, list)

    def test_each_bit_alone(self):
        for sheet in range(64):
            self.assertEqual(bits_of([sheet]), 2 ** sheet)
            self.assertEqual(sheets_of(2 ** sheet), [sheet])

    def test_each_bit_lacking(self):
        for sheet in range(64):
            others = [other for other in range(64) if other != sheet]
            self.assertEqual(bits_of(others), 2 ** 64 - 1 - 2 ** sheet)
            self.assertEqual(sheets_of(2 ** 64 - 1 - 2 ** sheet), others)

    def test_all_small_numbers_there_and_back(self):
        for bits in range(2048):
            self.assertEqual(sheets_of(bits), [k for k in range(11) if bits // 2 ** k % 2 == 1])
            self.assertEqual(bits_of(sheets_of(bits)), bits)

    def test_somewhat_beyond_the_bounds_nothing_is_refused(self):
        self.assertEqual(bits_of([64, 0, 70]), 1 + 2 ** 64 + 2 ** 70)
        self.assertEqual(sheets_of(2 ** 70 + 2 ** 64 + 1), [0, 64, 70])

    def test_the_list_handed_in_stays(self):
        for sheets, bits in LISTS:
            handed = list(sheets)
            bits_of(handed)
            self.assertEqual(handed, sheets)

    def test_the_list_told_is_the_askers_own(self):
        for bits in [0, 41]:
            told = sheets_of(bits)
            told.append(7)
            self.assertEqual(sheets_of(bits), told[:-1])


if __name__ == "__main__":
    unittest.main()
