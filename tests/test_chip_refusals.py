"""Point 16: what a chip refuses, and in which order."""

import unittest

from tests.helper import HUGE, NOT_WHOLE, pages_of, refusal_of, state_of
from wornpages.chip import Chip
from wornpages.errors import BlockFailed, NoPlace, NotClear, PowerGone

BLOCKS = 4
PAGES = 3

# Page 4 is written in good block 1, page 7 in failed block 2; their other pages are clear.
WRITTEN = 4
FAILED = 7
CLEAR_IN_FAILED = 8


def used_chip():
    chip = Chip(BLOCKS, PAGES, 9, [(2, 1)])
    chip.put(WRITTEN, "w")
    chip.put(FAILED, "f")
    refusal_of(chip.wipe, 2)
    return chip


def wrong_places(count):
    """Places that are not there, where there are count of them."""
    return [-1, -2, -count, -count - 1, count, count + 1, 2 * count, 10 ** 40, -10 ** 40, HUGE, -HUGE] + NOT_WHOLE


class Refusals(unittest.TestCase):
    def refused(self, chip, kind, ask, *values):
        """The ask is refused, and nothing is changed."""
        before = state_of(chip)
        refusal = refusal_of(ask, *values)
        self.assertIs(refusal.__class__, kind)
        self.assertEqual(state_of(chip), before)
        return refusal

    def check_places(self, chip):
        for page in wrong_places(BLOCKS * PAGES):
            self.refused(chip, NoPlace, chip.put, page, 1)
            self.refused(chip, NoPlace, chip.read, page)
        for block in wrong_places(BLOCKS) + [BLOCKS * PAGES - 1]:
            self.refused(chip, NoPlace, chip.wipe, block)
            self.refused(chip, NoPlace, chip.cleared, block)
            self.refused(chip, NoPlace, chip.failed, block)

    def test_no_place(self):
        self.check_places(used_chip())

    def test_no_place_in_the_dark(self):
        chip = used_chip()
        chip.cut_after(0)
        self.check_places(chip)

    def test_no_place_where_all_blocks_have_failed(self):
        chip = Chip(BLOCKS, PAGES, 0)
        for block in range(BLOCKS):
            refusal_of(chip.wipe, block)
        self.check_places(chip)
        chip.cut_after(0)
        self.check_places(chip)

    def test_no_place_where_all_pages_are_written(self):
        chip = Chip(BLOCKS, PAGES)
        for page in range(BLOCKS * PAGES):
            chip.put(page, page)
        self.check_places(chip)

    def test_a_page_that_is_no_block(self):
        chip = Chip(2, 3)
        self.assertIsNone(chip.read(5))
        self.refused(chip, NoPlace, chip.wipe, 2)
        self.refused(chip, NoPlace, chip.read, 6)
        chip = Chip(3, 1)
        chip.wipe(2)
        self.refused(chip, NoPlace, chip.put, 3, 1)

    def test_power_gone(self):
        chip = used_chip()
        chip.cut_after(0)
        for page in range(BLOCKS * PAGES):
            self.refused(chip, PowerGone, chip.put, page, 1)
            self.refused(chip, PowerGone, chip.read, page)
        for block in range(BLOCKS):
            self.refused(chip, PowerGone, chip.wipe, block)

    def test_in_the_dark_no_block_fails(self):
        chip = Chip(2, 1, 0, [(0, 0)])
        chip.cut_after(0)
        self.refused(chip, PowerGone, chip.put, 0, 1)
        self.refused(chip, PowerGone, chip.wipe, 0)
        self.refused(chip, PowerGone, chip.wipe, 1)

    def test_block_failed(self):
        chip = used_chip()
        for page in [6, FAILED, CLEAR_IN_FAILED]:
            self.assertEqual(self.refused(chip, BlockFailed, chip.put, page, 1).block, 2)
        self.assertEqual(self.refused(chip, BlockFailed, chip.wipe, 2).block, 2)

    def test_a_failed_block_is_read(self):
        chip = used_chip()
        self.assertEqual(chip.read(FAILED), "f")
        self.assertIsNone(chip.read(CLEAR_IN_FAILED))

    def test_not_clear(self):
        chip = used_chip()
        self.assertEqual(self.refused(chip, NotClear, chip.put, WRITTEN, 1).page, WRITTEN)
        self.assertEqual(self.refused(chip, NotClear, chip.put, WRITTEN, "w").page, WRITTEN)

    def test_not_clear_on_each_page(self):
        chip = Chip(3, 2)
        for page in range(6):
            chip.put(page, 0)
        for page in range(6):
            self.assertEqual(self.refused(chip, NotClear, chip.put, page, 1).page, page)

    def test_not_clear_ahead_of_a_failure_to_come(self):
        chip = Chip(2, 2, 9, [(1, 1)])
        chip.put(2, "w")
        self.refused(chip, NotClear, chip.put, 2, 1)
        self.assertIs(chip.failed(1), False)

    def test_block_failed_at_the_deed_itself(self):
        chip = Chip(3, 2, 9, [(1, 0), (2, 0)])
        for block, ask in [(1, (chip.put, 3, 1)), (2, (chip.wipe, 2))]:
            refusal = refusal_of(*ask)
            self.assertIs(refusal.__class__, BlockFailed)
            self.assertEqual(refusal.block, block)

    def test_the_chip_is_used_on(self):
        chip = used_chip()
        self.check_places(chip)
        chip.put(0, "new")
        chip.wipe(1)
        self.assertEqual(pages_of(chip), ["new"] + [None] * 6 + ["f"] + [None] * 4)


if __name__ == "__main__":
    unittest.main()
