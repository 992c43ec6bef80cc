"""Point 25: sheets that are written, and how a value is put on the spot."""

import unittest

from tests.helper import HUGE, NOT_WHOLE, deeds_of, fail_block, pages_of, refusal_of, state_of
from wornpages.chip import Chip
from wornpages.errors import BlockFailed, Full, NoRoom, NoSheet, NoValue, PowerGone
from wornpages.marks import ROLL
from wornpages.plain import Plain
from wornpages.terms import Terms

TOP = 10 ** 30 - 1


def wrong_sheets(sheets):
    """Things that are no sheet, where there are so many sheets."""
    return [-1, -2, -sheets, sheets, sheets + 1, 64, 65, 1000, 10 ** 40, -10 ** 40, HUGE, -HUGE] + NOT_WHOLE


WRONG_VALUES = [-1, -2, -TOP, TOP + 1, TOP + 2, 10 ** 31, HUGE, -HUGE] + NOT_WHOLE


class Writing(unittest.TestCase):
    def test_the_pair_lies_on_the_spot(self):
        store = Plain(Chip(3, 2), Terms(3, 2, 64, 2))
        for page, sheet, value in [(0, 5, 70), (1, 63, 0), (2, 5, TOP), (3, 63, 1), (4, 63, 1), (5, 5, 2)]:
            mark = store.book.mark(sheet)
            self.assertEqual(mark, (page + 1) * 128 + sheet)
            self.assertEqual(deeds_of(store.chip, store.write, sheet, value), [("put", page, True)])
            self.assertEqual(store.chip.read(page), (mark, value))
            self.assertIs(store.chip.read(page).__class__, tuple)
            self.assertEqual(store.book.where[sheet], page)
            self.assertEqual(store.read(sheet), value)
        self.assertEqual(store.book.tell(), ([(5, 5), (63, 4)], [0, 0, 2], [2, 2, 2], [1, 3, 5], 7))

    def test_the_page_is_told(self):
        store = Plain(Chip(3, 2), Terms(3, 2, 4, 2))
        store.chip.wipe(0)
        told = [store.write(sheet, 9) for sheet in [3, 0, 0, 3, 3, 0]]
        self.assertEqual(told, [2, 3, 4, 5, 0, 1])
        self.assertTrue(all(page.__class__ is int for page in told))

    def test_every_sheet_and_no_more(self):
        for sheets in [1, 2, 7, 64]:
            store = Plain(Chip(16, 16), Terms(16, 16, sheets, 200))
            for sheet in range(sheets):
                self.assertEqual(store.write(sheet, sheet), sheet)
            self.assertEqual(store.held(), list(range(sheets)))
            self.assertIs(refusal_of(store.write, sheets, 1).__class__, NoSheet)

    def test_bounds_of_values(self):
        store = Plain(Chip(2, 16), Terms(2, 16, 1, 1))
        for value in [0, 1, 2, 2 ** 64, TOP - 1, TOP]:
            store.write(0, value)
            self.assertEqual(store.read(0), value)


class Refusals(unittest.TestCase):
    def refused(self, store, kind, ask, *values):
        """The ask is refused, no deed is done, and nothing is changed."""
        before = (state_of(store.chip), store.book.tell())
        self.assertIs(refusal_of(ask, *values).__class__, kind)
        self.assertEqual((state_of(store.chip), store.book.tell()), before)

    def full_store(self):
        """Sheets 0 and 1 are held, as many as the share; there are clear pages."""
        store = Plain(Chip(3, 2), Terms(3, 2, 5, 2))
        store.write(0, 10)
        store.write(1, 11)
        return store

    def roomless_store(self):
        """Sheet 0 is held, and no page is clear; the share is not reached."""
        store = Plain(Chip(3, 2), Terms(3, 2, 5, 2))
        for value in range(6):
            store.write(0, value)
        return store

    def test_no_sheet(self):
        store = Plain(Chip(3, 2), Terms(3, 2, 5, 2))
        for sheet in wrong_sheets(5):
            self.refused(store, NoSheet, store.write, sheet, 1)

    def test_no_sheet_that_is_a_truth_of_a_held_one(self):
        store = self.full_store()
        for sheet in [True, False]:
            self.refused(store, NoSheet, store.write, sheet, 1)

    def test_no_value(self):
        store = Plain(Chip(3, 2), Terms(3, 2, 5, 2))
        store.write(0, 1)
        for value in WRONG_VALUES:
            for sheet in [0, 1]:
                self.refused(store, NoValue, store.write, sheet, value)

    def test_full(self):
        store = self.full_store()
        for sheet in [2, 3, 4]:
            self.refused(store, Full, store.write, sheet, 1)

    def test_a_held_sheet_is_written_where_the_share_is_full(self):
        store = self.full_store()
        self.assertEqual(store.write(1, 12), 2)
        self.assertEqual(store.write(0, 13), 3)
        self.assertEqual([store.read(0), store.read(1)], [13, 12])
        self.refused(store, Full, store.write, 2, 1)

    def test_a_sheet_given_up_makes_room_in_the_share(self):
        store = self.full_store()
        store.give_up([0])
        self.assertEqual(store.write(4, 9), 3)
        self.refused(store, Full, store.write, 0, 1)
        self.assertEqual(store.held(), [1, 4])

    def test_every_share_is_reached(self):
        for share in range(1, 5):
            store = Plain(Chip(4, 2), Terms(4, 2, 8, share))
            for sheet in range(share):
                store.write(sheet, 1)
            self.refused(store, Full, store.write, share, 1)
            store.write(0, 2)

    def test_a_share_greater_than_the_sheets_is_never_full(self):
        store = Plain(Chip(4, 4), Terms(4, 4, 3, 10))
        for value in range(5):
            for sheet in range(3):
                store.write(sheet, value)
        self.assertEqual(store.held(), [0, 1, 2])

    def test_no_room(self):
        store = self.roomless_store()
        for sheet in range(5):
            self.refused(store, NoRoom, store.write, sheet, 1)
        self.assertEqual(store.read(0), 5)

    def test_no_room_where_all_blocks_have_failed(self):
        chip = Chip(2, 3, 9, [(0, 0), (1, 0)])
        store = Plain(chip, Terms(2, 3, 5, 1))
        fail_block(chip, 0)
        fail_block(chip, 1)
        self.refused(store, NoRoom, store.write, 0, 1)

    def test_power_gone(self):
        store = self.full_store()
        store.chip.cut_after(0)
        for sheet in [0, 1]:
            self.refused(store, PowerGone, store.write, sheet, 1)
        store.chip.power_on()
        self.assertEqual(store.write(0, 1), 2)

    def test_the_last_put_ahead_of_the_dark_is_told_done(self):
        store = Plain(Chip(3, 2), Terms(3, 2, 5, 2))
        store.chip.cut_after(1)
        self.assertEqual(store.write(0, 7), 0)
        self.assertEqual(store.held(), [0])
        self.refused(store, PowerGone, store.write, 0, 8)
        store.chip.power_on()
        self.assertEqual(store.read(0), 7)

    def test_the_first_that_holds(self):
        full = self.full_store()
        roomless = self.roomless_store()
        both = Plain(Chip(2, 3), Terms(2, 3, 5, 1))
        for value in range(6):
            both.write(0, value)
        for store in [full, roomless, both]:
            for dark in [False, True]:
                if dark:
                    store.chip.cut_after(0)
                self.refused(store, NoSheet, store.write, 5, None)
                self.refused(store, NoSheet, store.write, None, TOP + 1)
                self.refused(store, NoSheet, store.write, -1, 1)
                self.refused(store, NoValue, store.write, 4, -1)
                self.refused(store, NoValue, store.write, 0, True)
                self.refused(store, NoRoom if store is roomless else Full, store.write, 4, 1)
                if store is not full:
                    self.refused(store, NoRoom, store.write, 0, 1)

    def test_as_the_chip_refuses_at_a_failing_block(self):
        store = Plain(Chip(3, 2, 9, [(0, 1)]), Terms(3, 2, 5, 2))
        store.write(0, 1)
        before = (store.book.tell(), pages_of(store.chip))
        refusal = refusal_of(store.write, 1, 2)
        self.assertIs(refusal.__class__, BlockFailed)
        self.assertEqual(refusal.block, 0)
        self.assertEqual((store.book.tell(), pages_of(store.chip)), before)
        self.assertEqual(store.chip.deeds(), [("put", 0, True), ("put", 1, False)])


class SettingDown(unittest.TestCase):
    def asks(self, chip, terms):
        """The two asks, each with a store of its own."""
        for word in ["set_down", "lay"]:
            store = Plain(chip(), terms)
            yield store, getattr(store, word)

    def test_on_the_spot(self):
        for store, ask in self.asks(lambda: Chip(3, 2), Terms(3, 2, 5, 2)):
            for page, name, value in [(0, 3, 7), (1, ROLL, 8), (2, 0, TOP)]:
                self.assertEqual(store.spot(), page)
                mark = store.book.mark(name)
                self.assertEqual(ask(name, value), page)
                self.assertEqual(store.chip.read(page), (mark, value))
            self.assertEqual(store.book.tell(), ([(0, 2), (3, 0), (64, 1)], [2, 1, 0], [2, 1, 0], [1, 3, 0], 4))
            self.assertEqual(store.held(), [0, 3])

    def test_the_share_is_not_asked(self):
        for store, ask in self.asks(lambda: Chip(3, 2), Terms(3, 2, 5, 1)):
            for name in [0, 1, 2]:
                ask(name, 1)
            self.assertEqual(store.held(), [0, 1, 2])

    def test_without_a_spot(self):
        for store, ask in self.asks(lambda: Chip(2, 3), Terms(2, 3, 5, 1)):
            for page in range(6):
                ask(0, page)
            for dark in [False, True]:
                if dark:
                    store.chip.cut_after(0)
                before = (state_of(store.chip), store.book.tell())
                self.assertIs(refusal_of(ask, 0, 1).__class__, NoRoom)
                self.assertIs(refusal_of(ask, ROLL, 1).__class__, NoRoom)
                self.assertEqual((state_of(store.chip), store.book.tell()), before)

    def test_as_the_chip_refuses(self):
        for store, ask in self.asks(lambda: Chip(3, 2, 9, [(0, 0)]), Terms(3, 2, 5, 2)):
            before = store.book.tell()
            self.assertIs(refusal_of(ask, 0, 1).__class__, BlockFailed)
            self.assertEqual(store.book.tell(), before)
            store.chip.cut_after(0)
            self.assertIs(refusal_of(ask, 0, 1).__class__, PowerGone)
            self.assertEqual(store.book.tell(), before)
            store.chip.power_on()
            self.assertEqual(ask(0, 1), 2)


if __name__ == "__main__":
    unittest.main()
