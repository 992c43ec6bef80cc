"""Point 14: blocks that fail."""

import unittest

from tests.helper import pages_of, refusal_of, state_of
from wornpages.chip import Chip
from wornpages.errors import BlockFailed


class Failing(unittest.TestCase):
    def fails(self, chip, block, word, *values):
        """The ask is refused, and all that it changes is that the block has failed."""
        dark, pages, cleared, failed, deeds = state_of(chip)
        self.assertIs(failed[block], False)
        refusal = refusal_of(getattr(chip, word), *values)
        self.assertIs(refusal.__class__, BlockFailed)
        self.assertEqual(refusal.block, block)
        failed[block] = True
        self.assertEqual(state_of(chip), (dark, pages, cleared, failed, deeds + [(word, values[0], False)]))
        self.stays_failed(chip, block)

    def stays_failed(self, chip, block):
        """Each put and wipe on the block is refused, is no deed, and changes nothing."""
        before = state_of(chip)
        asks = [(chip.put, page, "late") for page in range(block * chip.pages, (block + 1) * chip.pages)]
        for ask in asks + [(chip.wipe, block)]:
            refusal = refusal_of(*ask)
            self.assertIs(refusal.__class__, BlockFailed)
            self.assertEqual(refusal.block, block)
        self.assertEqual(state_of(chip), before)

    def test_at_the_first_put(self):
        self.fails(Chip(3, 2, 9, [(1, 0)]), 1, "put", 2, "x")

    def test_at_the_first_wipe(self):
        self.fails(Chip(3, 2, 9, [(1, 0)]), 1, "wipe", 1)

    def test_at_a_later_put(self):
        chip = Chip(3, 2, 9, [(1, 3)])
        chip.put(2, "a")
        chip.wipe(1)
        chip.put(3, "b")
        self.fails(chip, 1, "put", 2, "x")
        self.assertEqual(pages_of(chip), [None, None, None, "b", None, None])
        self.assertEqual(chip.cleared(1), 1)

    def test_at_a_later_wipe(self):
        chip = Chip(3, 2, 9, [(1, 2)])
        chip.put(2, "a")
        chip.put(3, 0)
        self.fails(chip, 1, "wipe", 1)
        self.assertEqual(pages_of(chip), [None, None, "a", 0, None, None])
        self.assertEqual(chip.cleared(1), 0)

    def test_puts_and_wipes_are_counted_together(self):
        for word in ["put", "wipe"]:
            for wipes in range(5):
                chip = Chip(2, 4, 9, [(0, 4)])
                for times in range(wipes):
                    chip.wipe(0)
                for page in range(4 - wipes):
                    chip.put(page, page)
                if word == "wipe":
                    self.fails(chip, 0, "wipe", 0)
                elif wipes > 0:
                    self.fails(chip, 0, "put", 3, "x")

    def test_wipes_of_clear_blocks_count(self):
        chip = Chip(2, 1, 9, [(0, 3)])
        for times in range(3):
            chip.wipe(0)
        self.fails(chip, 0, "put", 0, 1)
        self.assertEqual(chip.cleared(0), 3)

    def test_only_deeds_of_the_block_itself_count(self):
        chip = Chip(3, 2, 9, [(1, 1)])
        for times in range(3):
            for page in [0, 1, 4, 5]:
                chip.put(page, page)
            chip.wipe(0)
            chip.wipe(2)
        chip.put(3, "mine")
        self.fails(chip, 1, "wipe", 1)

    def test_what_is_refused_without_a_deed_does_not_count(self):
        chip = Chip(2, 2, 9, [(0, 2)])
        chip.put(0, 1)
        for times in range(5):
            refusal_of(chip.put, 0, 2)
            refusal_of(chip.put, -1, 2)
            refusal_of(chip.wipe, None)
            chip.read(0)
        chip.cut_after(0)
        for times in range(5):
            refusal_of(chip.put, 1, 2)
            refusal_of(chip.wipe, 0)
        chip.power_on()
        chip.put(1, 2)
        self.fails(chip, 0, "wipe", 0)

    def test_a_put_on_a_written_page_fails_no_block(self):
        chip = Chip(2, 2, 9, [(0, 1)])
        chip.put(0, 1)
        refusal_of(chip.put, 0, 2)
        self.assertIs(chip.failed(0), False)
        self.fails(chip, 0, "put", 1, 2)

    def test_by_most(self):
        for most in range(4):
            chip = Chip(2, 2, most)
            for times in range(most):
                chip.put(2, times)
                chip.wipe(1)
            chip.put(3, "last")
            self.fails(chip, 1, "wipe", 1)
            self.assertEqual(chip.cleared(1), most)
            self.assertEqual(chip.read(3), "last")

    def test_by_most_at_wipes_alone(self):
        chip = Chip(2, 3, 1)
        chip.wipe(0)
        for page in range(3):
            chip.put(page, page)
        self.assertEqual(pages_of(chip), [0, 1, 2, None, None, None])
        self.assertIs(chip.failed(0), False)
        self.fails(chip, 0, "wipe", 0)

    def test_by_most_each_block_by_itself(self):
        chip = Chip(3, 1, 2)
        for block in range(3):
            chip.wipe(block)
            chip.wipe(block)
        self.fails(chip, 1, "wipe", 1)
        self.assertEqual([chip.failed(block) for block in range(3)], [False, True, False])
        chip.put(0, 1)
        self.fails(chip, 0, "wipe", 0)

    def test_by_most_ahead_of_the_ill(self):
        chip = Chip(2, 1, 1, [(0, 5)])
        chip.wipe(0)
        self.fails(chip, 0, "wipe", 0)

    def test_by_the_ill_ahead_of_most(self):
        chip = Chip(2, 1, 5, [(0, 1)])
        chip.wipe(0)
        self.fails(chip, 0, "wipe", 0)
        chip.wipe(1)
        chip.wipe(1)

    def test_by_both_at_once(self):
        chip = Chip(2, 1, 1, [(0, 1)])
        chip.wipe(0)
        self.fails(chip, 0, "wipe", 0)

    def test_other_blocks_go_on(self):
        chip = Chip(2, 2, 9, [(0, 1)])
        chip.put(1, "old")
        self.fails(chip, 0, "put", 0, "x")
        chip.put(2, "y")
        chip.put(3, "z")
        self.assertEqual(pages_of(chip), [None, "old", "y", "z"])
        chip.wipe(1)
        self.assertEqual(pages_of(chip), [None, "old", None, None])

    def test_power_that_comes_back_mends_no_block(self):
        chip = Chip(2, 1, 9, [(0, 1)])
        chip.put(0, "kept")
        refusal_of(chip.wipe, 0)
        chip.cut_after(0)
        chip.power_on()
        self.stays_failed(chip, 0)
        self.assertEqual(chip.read(0), "kept")


if __name__ == "__main__":
    unittest.main()
