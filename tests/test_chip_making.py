"""Point 12: what a chip is made of, and a new chip."""

import inspect
import unittest

from tests.helper import HUGE, MILLION, NOT_WHOLE, pages_of, refusal_of
from wornpages.chip import Chip
from wornpages.errors import BlockFailed, NoChip


def deeds_until_failure(chip, block, at_most):
    """How many wipes of a block go well, up to at_most."""
    for done in range(at_most):
        if refusal_of(chip.wipe, block) is not None:
            return done
    return at_most


class NewChip(unittest.TestCase):
    def test_arguments_and_defaults(self):
        arguments = inspect.signature(Chip).parameters
        self.assertEqual(list(arguments), ["blocks", "pages", "most", "ills"])
        self.assertEqual(arguments["most"].default, MILLION)
        self.assertIsNone(arguments["ills"].default)

    def test_named_arguments_of_the_asks(self):
        chip = Chip(blocks=2, pages=3, most=4, ills=None)
        chip.put(page=1, stuff=5)
        self.assertEqual(chip.read(page=1), 5)
        chip.wipe(block=0)
        self.assertEqual(chip.cleared(block=0), 1)
        self.assertIs(chip.failed(block=0), False)
        chip.cut_after(deeds=0)
        self.assertIs(chip.is_dark(), True)

    def test_all_is_clear_and_nothing_was_done(self):
        for blocks, pages in [(2, 1), (2, 16), (16, 1), (16, 16), (3, 4)]:
            chip = Chip(blocks, pages)
            self.assertEqual((chip.blocks, chip.pages, chip.most), (blocks, pages, MILLION))
            self.assertEqual(pages_of(chip), [None] * (blocks * pages))
            for block in range(blocks):
                self.assertIs(chip.failed(block), False)
                self.assertEqual(chip.cleared(block), 0)
            self.assertIs(chip.is_dark(), False)
            self.assertEqual(chip.deeds(), [])

    def test_every_page_and_block_can_be_used(self):
        for blocks, pages in [(2, 1), (16, 16), (3, 4), (5, 2)]:
            chip = Chip(blocks, pages)
            for page in range(blocks * pages):
                chip.put(page, page + 1)
            self.assertEqual(pages_of(chip), list(range(1, blocks * pages + 1)))
            for block in range(blocks):
                chip.wipe(block)
            self.assertEqual(pages_of(chip), [None] * (blocks * pages))

    def test_no_ills_and_power_without_end(self):
        chip = Chip(2, 1)
        for deed in range(100):
            chip.put(0, deed)
            chip.wipe(0)
        for deed in range(MILLION - 100):
            chip.wipe(0)
        self.assertEqual(chip.cleared(0), MILLION)
        self.assertEqual(len(chip.deeds()), MILLION + 100)
        chip.put(0, 1)
        with self.assertRaises(BlockFailed):
            chip.wipe(0)
        self.assertIs(chip.is_dark(), False)
        chip.put(1, 1)


class BoundsOfAChip(unittest.TestCase):
    def refused(self, *values):
        with self.assertRaises(NoChip):
            Chip(*values)

    def test_blocks(self):
        for blocks in [2, 3, 15, 16]:
            self.assertEqual(Chip(blocks, 4).blocks, blocks)
        for blocks in [1, 0, -1, -2, 17, 18, 10 ** 40, -10 ** 40, HUGE] + NOT_WHOLE + ["2"]:
            self.refused(blocks, 4)

    def test_pages(self):
        for pages in [1, 2, 15, 16]:
            self.assertEqual(Chip(4, pages).pages, pages)
        for pages in [0, -1, 17, 18, 10 ** 40, -10 ** 40, HUGE] + NOT_WHOLE:
            self.refused(4, pages)

    def test_most(self):
        for most in [0, 1, 2, MILLION - 1, MILLION]:
            self.assertEqual(Chip(4, 4, most).most, most)
        for most in [-1, -2, MILLION + 1, 10 ** 40, -10 ** 40, HUGE] + NOT_WHOLE:
            self.refused(4, 4, most)

    def test_block_of_an_ill(self):
        for blocks in [2, 4, 16]:
            for block in [0, 1, blocks - 1]:
                self.assertEqual(deeds_until_failure(Chip(blocks, 1, 9, [(block, 2)]), block, 5), 2)
            for block in [-1, -blocks, blocks, blocks + 1, 10 ** 40, -10 ** 40, HUGE]:
                self.refused(blocks, 4, 9, [(block, 2)])
        for block in NOT_WHOLE:
            self.refused(4, 4, 9, [(block, 2)])

    def test_deeds_of_an_ill(self):
        for deeds in [0, 1, 2, MILLION - 1, MILLION]:
            chip = Chip(4, 4, 9, [(1, deeds)])
            self.assertEqual(deeds_until_failure(chip, 1, 3), min(deeds, 3))
        for deeds in [-1, -2, MILLION + 1, 10 ** 40, -10 ** 40, HUGE] + NOT_WHOLE:
            self.refused(4, 4, 9, [(1, deeds)])

    def test_a_block_told_twice(self):
        self.refused(4, 4, 9, [(1, 2), (1, 3)])
        self.refused(4, 4, 9, [(1, 2), (1, 2)])
        self.refused(4, 4, 9, [(0, 5), (2, 2), (0, 1)])
        self.refused(4, 4, 9, ((3, 0), (1, 2), (3, 0)))

    def test_a_wrong_ill_behind_right_ones(self):
        self.refused(4, 4, 9, [(0, 1), (1, 2), (4, 1)])
        self.refused(4, 4, 9, [(0, 1), (1, -1), (2, 1)])
        self.refused(4, 4, 9, ((0, 1), (1, 2), (2, True)))


class IllsOfAChip(unittest.TestCase):
    def test_of_none(self):
        for ills in [None, [], ()]:
            chip = Chip(2, 1, 9, ills)
            for block in range(2):
                self.assertEqual(deeds_until_failure(chip, block, 9), 9)

    def test_of_several_in_any_order(self):
        for ills in [[(3, 1), (0, 4), (2, 0)], ((2, 0), (3, 1), (0, 4))]:
            chip = Chip(4, 1, 9, ills)
            self.assertEqual([deeds_until_failure(chip, block, 6) for block in range(4)], [4, 6, 0, 1])

    def test_of_all_blocks(self):
        chip = Chip(3, 1, 9, [(0, 0), (1, 1), (2, 2)])
        self.assertEqual([deeds_until_failure(chip, block, 6) for block in range(3)], [0, 1, 2])

    def test_as_a_named_argument_with_most_left_out(self):
        chip = Chip(2, 2, ills=[(1, 1)])
        self.assertEqual(chip.most, MILLION)
        self.assertEqual(deeds_until_failure(chip, 1, 5), 1)

    def test_the_list_is_not_changed(self):
        ills = [(2, 1), (0, 3)]
        chip = Chip(3, 1, 9, ills)
        self.assertEqual(deeds_until_failure(chip, 2, 5), 1)
        self.assertEqual(ills, [(2, 1), (0, 3)])

    def test_a_list_changed_behind_changes_nothing(self):
        ills = [(0, 1), (1, 2)]
        chip = Chip(3, 1, 9, ills)
        ills[0] = (0, 4)
        ills.append((2, 0))
        self.assertEqual([deeds_until_failure(chip, block, 6) for block in range(3)], [1, 2, 6])

    def test_a_list_emptied_behind_changes_nothing(self):
        ills = [(0, 1)]
        chip = Chip(2, 1, 9, ills)
        ills.clear()
        self.assertEqual(deeds_until_failure(chip, 0, 6), 1)


if __name__ == "__main__":
    unittest.main()
