"""Point 26: sheets that are given up."""

import unittest

from tests.helper import HUGE, NOT_WHOLE, deeds_of, refusal_of, state_of
from wornpages.chip import Chip
from wornpages.errors import BlockFailed, NoRoom, NoSheet, PowerGone
from wornpages.marks import ROLL, bits_of
from wornpages.plain import Plain
from wornpages.terms import Terms

WRONG = [-1, -2, 8, 9, 63, 64, 1000, 10 ** 40, -10 ** 40, HUGE, -HUGE] + NOT_WHOLE


def held_store(held, ills=None):
    """A store of eight sheets on four blocks of four pages, that holds these."""
    store = Plain(Chip(4, 4, 99, ills), Terms(4, 4, 8, 8))
    for sheet in held:
        store.write(sheet, sheet + 100)
    return store


class GivingUp(unittest.TestCase):
    def given_up(self, held, sheets, kept):
        """Of what is held only these are kept; a roll tells it."""
        store = held_store(held)
        handed = list(sheets)
        spot = store.spot()
        mark = store.book.mark(ROLL)
        told = store.give_up(handed)
        self.assertEqual(told, len(held) - len(kept))
        self.assertIs(told.__class__, int)
        self.assertEqual(handed, sheets)
        self.assertEqual(store.held(), kept)
        self.assertEqual(store.chip.deeds()[len(held):], [("put", spot, True)])
        self.assertEqual(store.chip.read(spot), (mark, bits_of(kept)))
        self.assertEqual(store.book.where[ROLL], spot)
        self.assertEqual(store.book.stamp, len(held) + 2)
        self.assertEqual([store.read(sheet) for sheet in range(8)],
                         [sheet + 100 if sheet in kept else None for sheet in range(8)])
        return store

    def test_some(self):
        self.given_up([1, 3, 5], [3], [1, 5])
        self.given_up([1, 3, 5], [5, 1], [3])
        self.given_up([7, 0], [0], [7])
        self.given_up([7, 0], [7], [0])

    def test_all(self):
        self.given_up([1, 3, 5], [5, 3, 1], [])
        self.given_up([4], [4], [])
        self.given_up(list(range(8)), list(range(8)), [])

    def test_some_that_are_not_held(self):
        self.given_up([1, 3, 5], [0, 3, 7], [1, 5])
        self.given_up([1, 3, 5], [0, 1, 2, 3, 4, 6, 7], [5])

    def test_one_told_more_than_once(self):
        self.given_up([1, 3, 5], [3, 3, 3], [1, 5])
        self.given_up([1, 3, 5], [3, 0, 1, 3, 0, 1], [5])
        self.given_up([1, 3, 5], [5, 3, 1] * 50, [])

    def test_bits_of_the_roll(self):
        store = self.given_up([0, 2, 5, 7], [2], [0, 5, 7])
        self.assertEqual(store.chip.read(4), (5 * 128 + 64, 1 + 32 + 128))
        self.assertEqual(store.give_up([0, 7]), 2)
        self.assertEqual(store.chip.read(5), (6 * 128 + 64, 32))
        self.assertEqual(store.give_up([5]), 1)
        self.assertEqual(store.chip.read(6), (7 * 128 + 64, 0))
        self.assertEqual(store.book.tell(), ([(64, 6)], [0, 1, 0, 0], [4, 3, 0, 0], [1, 5, 0, 0], 8))

    def test_the_book_is_told(self):
        store = self.given_up([1, 3, 5, 6], [3, 1], [5, 6])
        self.assertEqual(store.book.tell(), ([(5, 2), (6, 3), (64, 4)], [2, 1, 0, 0], [4, 1, 0, 0], [1, 5, 0, 0], 6))

    def test_nothing_is_done_where_none_is_held(self):
        for held, sheets in [([], []), ([], [0, 1, 7]), ([1, 3], []), ([1, 3], [0]), ([1, 3], [0, 2, 2, 7])]:
            store = held_store(held)
            before = (state_of(store.chip), store.book.tell())
            self.assertEqual(store.give_up(sheets), 0)
            self.assertIs(store.give_up(sheets).__class__, int)
            self.assertEqual((state_of(store.chip), store.book.tell()), before)

    def test_given_up_twice(self):
        store = held_store([1, 3])
        self.assertEqual(store.give_up([3]), 1)
        before = (state_of(store.chip), store.book.tell())
        self.assertEqual(store.give_up([3]), 0)
        self.assertEqual((state_of(store.chip), store.book.tell()), before)

    def test_held_again(self):
        store = held_store([1, 3])
        store.give_up([3, 1])
        self.assertEqual(store.write(3, 5), 3)
        self.assertEqual((store.held(), store.read(3), store.read(1)), ([3], 5, None))
        self.assertEqual(store.give_up([1, 3]), 1)
        self.assertEqual(store.held(), [])

    def test_sixty_four_sheets(self):
        store = Plain(Chip(8, 16), Terms(8, 16, 64, 64))
        for sheet in range(64):
            store.write(sheet, sheet)
        self.assertEqual(store.give_up([0]), 1)
        self.assertEqual(store.chip.read(64), (65 * 128 + 64, 2 ** 64 - 2))
        self.assertEqual(store.give_up(list(range(63, -1, -1))), 63)
        self.assertEqual(store.chip.read(65), (66 * 128 + 64, 0))

    def test_the_list_is_read_then_and_there(self):
        store = held_store([1, 3])
        sheets = [3]
        store.give_up(sheets)
        sheets.append(1)
        self.assertEqual(store.held(), [1])


class Refusals(unittest.TestCase):
    def refused(self, store, kind, sheets):
        before = (state_of(store.chip), store.book.tell())
        self.assertIs(refusal_of(store.give_up, sheets).__class__, kind)
        self.assertEqual((state_of(store.chip), store.book.tell()), before)

    def roomless_store(self):
        store = held_store([1, 3])
        while store.spot() is not None:
            store.write(1, 7)
        return store

    def check_no_sheet(self, store):
        for wrong in WRONG:
            for sheets in [[wrong], [wrong, 1], [1, wrong], [0, wrong, 3], [1, 3, 3, wrong], [wrong, wrong]]:
                self.refused(store, NoSheet, sheets)

    def test_no_sheet_at_any_place(self):
        self.check_no_sheet(held_store([1, 3]))
        self.check_no_sheet(held_store([]))

    def test_no_sheet_ahead_of_all(self):
        store = self.roomless_store()
        self.check_no_sheet(store)
        store.chip.cut_after(0)
        self.check_no_sheet(store)
        store = held_store([1, 3])
        store.chip.cut_after(0)
        self.check_no_sheet(store)

    def test_no_room_only_where_one_is_held(self):
        store = self.roomless_store()
        for sheets in [[1], [3, 1], [0, 0, 3]]:
            self.refused(store, NoRoom, sheets)
        for sheets in [[], [0], [2, 7, 2]]:
            self.assertEqual(store.give_up(sheets), 0)
        store.chip.cut_after(0)
        self.refused(store, NoRoom, [1])
        self.assertEqual(store.give_up([0]), 0)

    def test_power_gone_only_where_one_is_held(self):
        store = held_store([1, 3])
        store.chip.cut_after(0)
        for sheets in [[1], [3, 1], [0, 0, 3]]:
            self.refused(store, PowerGone, sheets)
        for sheets in [[], [0], [2, 7, 2]]:
            self.assertEqual(store.give_up(sheets), 0)
        store.chip.power_on()
        self.assertEqual(store.held(), [1, 3])
        self.assertEqual(store.give_up([1, 3]), 2)

    def test_a_failing_block(self):
        store = held_store([1, 3], [(0, 2)])
        before = store.book.tell()
        self.assertEqual(deeds_of(store.chip, store.give_up, [1]), [("put", 2, False)])
        self.assertEqual(store.book.tell(), before)
        self.assertEqual((store.held(), store.read(1)), ([1, 3], 101))
        self.assertEqual(store.give_up([1]), 1)
        self.assertEqual(store.chip.read(4), (3 * 128 + 64, 8))

    def test_a_failing_block_refuses_as_the_chip_does(self):
        store = held_store([1, 3], [(0, 2)])
        refusal = refusal_of(store.give_up, [0, 1])
        self.assertIs(refusal.__class__, BlockFailed)
        self.assertEqual(refusal.block, 0)


if __name__ == "__main__":
    unittest.main()
