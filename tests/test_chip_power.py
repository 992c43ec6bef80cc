"""Point 15: power that is cut and put on."""

import unittest

from tests.helper import HUGE, MILLION, NOT_WHOLE, pages_of, refusal_of, state_of
from wornpages.chip import Chip
from wornpages.errors import BlockFailed, NoValue, PowerGone


class Power(unittest.TestCase):
    def check_dark(self, chip):
        self.assertIs(chip.is_dark(), True)
        before = state_of(chip)
        asks = [(chip.read, page) for page in range(chip.blocks * chip.pages)]
        asks += [(chip.put, page, "dark") for page in range(chip.blocks * chip.pages)]
        asks += [(chip.wipe, block) for block in range(chip.blocks)]
        for ask in asks:
            self.assertIs(refusal_of(*ask).__class__, PowerGone)
        self.assertEqual(state_of(chip), before)

    def check_left(self, chip, deeds):
        """Just so many deeds are left."""
        for times in range(deeds):
            self.assertIs(chip.is_dark(), False)
            chip.read(0)
            chip.wipe(chip.blocks - 1)
        self.check_dark(chip)

    def test_cut_at_once(self):
        chip = Chip(2, 2)
        chip.put(0, "kept")
        self.assertIsNone(chip.cut_after(0))
        self.check_dark(chip)

    def test_cut_after_some_deeds(self):
        for deeds in [1, 2, 3, 7]:
            chip = Chip(2, 2)
            chip.cut_after(deeds)
            self.check_left(chip, deeds)
            self.assertEqual(chip.deeds(), [("wipe", 1, True)] * deeds)

    def test_puts_and_wipes_are_counted_together(self):
        chip = Chip(2, 2)
        chip.cut_after(3)
        chip.put(0, 1)
        chip.wipe(1)
        self.assertIs(chip.is_dark(), False)
        chip.put(1, 2)
        self.check_dark(chip)
        chip.power_on()
        self.assertEqual(pages_of(chip), [1, 2, None, None])

    def test_deeds_done_before_do_not_count(self):
        chip = Chip(2, 2)
        for times in range(5):
            chip.wipe(0)
        chip.cut_after(2)
        self.check_left(chip, 2)

    def test_deeds_at_which_a_block_fails_count(self):
        chip = Chip(3, 2, 9, [(0, 0), (1, 0)])
        chip.cut_after(3)
        for ask in [(chip.put, 0, 1), (chip.wipe, 1)]:
            self.assertIs(refusal_of(*ask).__class__, BlockFailed)
        self.check_left(chip, 1)

    def test_the_last_deed_may_be_one_at_which_a_block_fails(self):
        chip = Chip(2, 1, 0)
        chip.cut_after(1)
        self.assertIs(refusal_of(chip.wipe, 0).__class__, BlockFailed)
        self.check_dark(chip)
        self.assertEqual(chip.deeds(), [("wipe", 0, False)])
        self.assertIs(chip.failed(0), True)

    def test_what_is_refused_without_a_deed_does_not_count(self):
        chip = Chip(3, 2, 9, [(1, 0)])
        refusal_of(chip.wipe, 1)
        chip.put(0, 1)
        chip.cut_after(2)
        for ask in [
            (chip.put, 0, 2), (chip.put, 2, 2), (chip.wipe, 1), (chip.put, 6, 1), (chip.wipe, 3),
            (chip.put, -1, 1), (chip.wipe, True), (chip.read, None), (chip.cleared, 3), (chip.failed, -1),
        ]:
            self.assertIsNotNone(refusal_of(*ask))
        self.check_left(chip, 2)

    def test_what_is_refused_in_the_dark_does_not_count_later(self):
        chip = Chip(2, 2)
        chip.cut_after(0)
        self.check_dark(chip)
        chip.cut_after(2)
        self.check_left(chip, 2)

    def test_the_newer_word_holds_alone(self):
        for first, used, second in [(5, 0, 2), (2, 0, 5), (5, 2, 4), (2, 1, 1), (3, 3, 3), (3, 1, 0), (0, 0, 0)]:
            chip = Chip(2, 2)
            chip.cut_after(first)
            for times in range(used):
                chip.wipe(0)
            chip.cut_after(second)
            self.check_left(chip, second)

    def test_told_in_the_dark_it_gives_power_again(self):
        chip = Chip(2, 2)
        chip.put(0, "kept")
        chip.cut_after(0)
        self.check_dark(chip)
        chip.cut_after(1)
        self.assertIs(chip.is_dark(), False)
        self.assertEqual(pages_of(chip), ["kept", None, None, None])
        self.check_left(chip, 1)

    def test_power_on_from_the_dark(self):
        chip = Chip(2, 2)
        chip.put(3, "kept")
        chip.put(0, "")
        chip.cut_after(0)
        self.assertIsNone(chip.power_on())
        self.assertIs(chip.is_dark(), False)
        self.assertEqual(pages_of(chip), ["", None, None, "kept"])
        for times in range(50):
            chip.wipe(0)
        self.assertIs(chip.is_dark(), False)

    def test_power_on_ahead_of_the_cut(self):
        chip = Chip(2, 2)
        chip.cut_after(2)
        chip.wipe(0)
        chip.power_on()
        for times in range(50):
            chip.wipe(0)
        self.assertIs(chip.is_dark(), False)

    def test_power_on_with_power(self):
        chip = Chip(2, 2)
        self.assertIsNone(chip.power_on())
        chip.put(0, 1)
        self.assertEqual(state_of(chip), (False, [1, None, None, None], [0, 0], [False, False], [("put", 0, True)]))

    def test_the_greatest_number(self):
        chip = Chip(2, 2)
        chip.cut_after(MILLION)
        for times in range(1000):
            chip.wipe(0)
        self.assertIs(chip.is_dark(), False)

    def test_wrong_numbers_change_nothing(self):
        for wrong in [-1, -2, MILLION + 1, 10 ** 40, -10 ** 40, HUGE] + NOT_WHOLE:
            chip = Chip(2, 2)
            for left in [0, 1, 3]:
                chip.cut_after(left)
                self.assertIs(refusal_of(chip.cut_after, wrong).__class__, NoValue)
                self.check_left(chip, left)
            chip.power_on()
            self.assertIs(refusal_of(chip.cut_after, wrong).__class__, NoValue)
            for times in range(5):
                chip.wipe(0)
            self.assertIs(chip.is_dark(), False)


if __name__ == "__main__":
    unittest.main()
