"""Points 13 and 17: puts and wipes, and what is told of them."""

import unittest

from tests.helper import pages_of, refusal_of
from wornpages.chip import Chip
from wornpages.errors import BlockFailed, NotClear

STUFF = [
    0, 1, -1, 7, 10 ** 60, -10 ** 60, "", "a", "two words", "\n\t",
    (), (0,), (1, 2), ("", 0), (128, 10 ** 30 - 1), ("a", ("b", 3)),
]


class Puts(unittest.TestCase):
    def test_stuff_reads_as_it_was_handed_in(self):
        for stuff in STUFF:
            chip = Chip(2, 2)
            self.assertIsNone(chip.put(1, stuff))
            self.assertEqual(chip.read(1), stuff)
            self.assertIs(chip.read(1).__class__, stuff.__class__)

    def test_a_put_page_is_clear_no_more(self):
        for stuff in STUFF:
            chip = Chip(2, 2)
            chip.put(1, stuff)
            with self.assertRaises(NotClear):
                chip.put(1, 5)
            self.assertEqual(chip.read(1), stuff)

    def test_other_pages_stay_as_they_are(self):
        chip = Chip(3, 2)
        chip.put(2, "x")
        self.assertEqual(pages_of(chip), [None, None, "x", None, None, None])
        chip.put(5, "")
        self.assertEqual(pages_of(chip), [None, None, "x", None, None, ""])

    def test_pages_in_any_order(self):
        chip = Chip(2, 4)
        order = [6, 0, 3, 7, 2, 1, 5, 4]
        for page in order:
            self.assertIsNone(chip.read(page))
            chip.put(page, page * 10)
            self.assertEqual(chip.read(page), page * 10)
        self.assertEqual(pages_of(chip), [page * 10 for page in range(8)])
        self.assertEqual(chip.deeds(), [("put", page, True) for page in order])

    def test_a_put_is_no_clearing(self):
        chip = Chip(2, 2)
        chip.put(0, 1)
        self.assertEqual([chip.cleared(0), chip.cleared(1)], [0, 0])


class Wipes(unittest.TestCase):
    def full_chip(self):
        chip = Chip(3, 2)
        for page in range(6):
            chip.put(page, page)
        return chip

    def test_all_pages_of_the_block_and_no_others(self):
        for block in range(3):
            chip = self.full_chip()
            self.assertIsNone(chip.wipe(block))
            self.assertEqual(pages_of(chip), [None if page // 2 == block else page for page in range(6)])
            self.assertEqual([chip.cleared(b) for b in range(3)], [int(b == block) for b in range(3)])

    def test_wiped_pages_are_put_anew(self):
        chip = self.full_chip()
        chip.wipe(1)
        chip.put(3, "new")
        self.assertEqual(pages_of(chip), [0, 1, None, "new", 4, 5])
        chip.wipe(1)
        self.assertEqual(pages_of(chip), [0, 1, None, None, 4, 5])
        self.assertEqual(chip.cleared(1), 2)

    def test_a_block_that_is_partly_written(self):
        chip = Chip(2, 3)
        chip.put(4, 9)
        chip.wipe(1)
        self.assertEqual(pages_of(chip), [None] * 6)
        self.assertEqual(chip.cleared(1), 1)

    def test_a_clear_block_counts(self):
        chip = Chip(2, 2)
        for times in range(1, 6):
            chip.wipe(1)
            self.assertEqual(chip.cleared(1), times)
        self.assertEqual(chip.cleared(0), 0)
        self.assertEqual(chip.deeds(), [("wipe", 1, True)] * 5)


class Told(unittest.TestCase):
    def test_deeds_in_their_order(self):
        chip = Chip(3, 2, 1, [(2, 1)])
        chip.put(3, "a")
        chip.wipe(0)
        chip.put(5, "b")
        for ask, place in [(chip.wipe, 2), (chip.wipe, 0)]:
            with self.assertRaises(BlockFailed):
                ask(place)
        chip.wipe(1)
        self.assertEqual(chip.deeds(), [
            ("put", 3, True), ("wipe", 0, True), ("put", 5, True),
            ("wipe", 2, False), ("wipe", 0, False), ("wipe", 1, True),
        ])

    def test_kinds(self):
        chip = Chip(2, 1, 0, [(1, 0)])
        chip.put(0, 1)
        refusal_of(chip.wipe, 0)
        refusal_of(chip.put, 1, 1)
        self.assertIs(chip.deeds().__class__, list)
        self.assertEqual([deed[0] for deed in chip.deeds()], ["put", "wipe", "put"])
        for deed, well in zip(chip.deeds(), [True, False, False], strict=True):
            self.assertIs(deed.__class__, tuple)
            self.assertEqual([part.__class__ for part in deed], [str, int, bool])
            self.assertIs(deed[2], well)

    def test_failed_is_a_truth_itself(self):
        chip = Chip(2, 1, 0)
        self.assertIs(chip.failed(0), False)
        refusal_of(chip.wipe, 0)
        self.assertIs(chip.failed(0), True)
        self.assertIs(chip.failed(1), False)

    def test_reads_and_questions_are_no_deeds(self):
        chip = Chip(2, 1)
        chip.read(0)
        chip.cleared(0)
        chip.failed(0)
        chip.is_dark()
        chip.deeds()
        chip.cut_after(4)
        chip.power_on()
        self.assertEqual(chip.deeds(), [])

    def test_told_in_the_dark(self):
        chip = Chip(3, 2, 2, [(2, 0)])
        chip.put(0, 1)
        chip.wipe(1)
        chip.wipe(1)
        refusal_of(chip.put, 5, 1)
        chip.cut_after(0)
        self.assertIs(chip.is_dark(), True)
        self.assertEqual([chip.cleared(block) for block in range(3)], [0, 2, 0])
        self.assertEqual([chip.failed(block) for block in range(3)], [False, False, True])
        self.assertEqual(chip.deeds(), [("put", 0, True), ("wipe", 1, True), ("wipe", 1, True), ("put", 5, False)])
        self.assertIs(chip.is_dark(), True)

    def test_a_list_changed_by_the_asker_changes_nothing(self):
        chip = Chip(2, 2)
        chip.put(0, 1)
        told = chip.deeds()
        told.append(("wipe", 1, True))
        told[0] = ("put", 3, False)
        self.assertEqual(chip.deeds(), [("put", 0, True)])
        told.clear()
        self.assertEqual(chip.deeds(), [("put", 0, True)])

    def test_a_list_told_before_stays_as_it_was(self):
        chip = Chip(2, 2)
        empty = chip.deeds()
        chip.put(0, 1)
        one = chip.deeds()
        again = chip.deeds()
        one.append("mine")
        chip.wipe(0)
        self.assertEqual(empty, [])
        self.assertEqual(one, [("put", 0, True), "mine"])
        self.assertEqual(again, [("put", 0, True)])

    def test_two_chips_have_nothing_in_common(self):
        ills = [(1, 0)]
        one = Chip(2, 2, 9, ills)
        other = Chip(2, 2, 9, ills)
        one.put(0, 1)
        one.wipe(0)
        one.put(1, 2)
        refusal_of(one.put, 2, 1)
        one.cut_after(0)
        self.assertEqual(pages_of(other), [None] * 4)
        self.assertEqual([other.cleared(0), other.failed(1), other.is_dark(), other.deeds()], [0, False, False, []])
        other.put(0, 3)
        self.assertEqual(len(one.deeds()), 4)
        one.power_on()
        self.assertEqual(pages_of(one), [None, 2, None, None])


if __name__ == "__main__":
    unittest.main()
