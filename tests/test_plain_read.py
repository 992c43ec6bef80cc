"""Points 27 and 28: what is read, what a refusal leaves as it was, and a store that is used on."""

import random
import unittest

from tests.helper import HUGE, NOT_WHOLE, refusal_of, state_of
from wornpages.chip import Chip
from wornpages.errors import BlockFailed, Full, NoRoom, NoSheet, NoValue, PowerGone
from wornpages.plain import Plain
from wornpages.terms import Terms

WRONG = [-1, -5, 5, 6, 64, 10 ** 40, -10 ** 40, HUGE, -HUGE] + NOT_WHOLE


def small_store(ills=None):
    return Plain(Chip(3, 3, 99, ills), Terms(3, 3, 5, 3))


class Reading(unittest.TestCase):
    def values(self, store):
        return [store.read(sheet) for sheet in range(5)]

    def test_held_or_not(self):
        store = small_store()
        self.assertEqual(self.values(store), [None] * 5)
        store.write(3, 0)
        store.write(0, 10 ** 30 - 1)
        self.assertEqual(self.values(store), [10 ** 30 - 1, None, None, 0, None])

    def test_the_newest_value(self):
        store = small_store()
        for value in range(9):
            store.write(2, value * 7)
            self.assertEqual(self.values(store), [None, None, value * 7, None, None])

    def test_given_up(self):
        store = small_store()
        store.write(2, 5)
        store.write(4, 6)
        store.give_up([2])
        self.assertEqual(self.values(store), [None, None, None, None, 6])
        store.write(2, 8)
        self.assertEqual(self.values(store), [None, None, 8, None, 6])

    def test_in_the_dark(self):
        store = small_store()
        store.write(2, 5)
        store.write(4, 6)
        store.give_up([4])
        store.chip.cut_after(0)
        self.assertIs(refusal_of(store.read, 2).__class__, PowerGone)
        for sheet in [0, 1, 3, 4]:
            self.assertIsNone(store.read(sheet))
        store.chip.power_on()
        self.assertEqual(store.read(2), 5)

    def test_no_sheet(self):
        store = small_store()
        store.write(0, 5)
        store.write(1, 6)
        for dark in [False, True]:
            if dark:
                store.chip.cut_after(0)
            for sheet in WRONG:
                self.assertIs(refusal_of(store.read, sheet).__class__, NoSheet)

    def test_reading_changes_nothing(self):
        store = small_store()
        store.write(0, 5)
        before = (state_of(store.chip), store.book.tell())
        self.values(store)
        for sheet in WRONG:
            refusal_of(store.read, sheet)
        self.assertEqual((state_of(store.chip), store.book.tell()), before)

    def test_held_is_the_askers_own(self):
        store = small_store()
        for sheet in [4, 0, 2]:
            store.write(sheet, 1)
        held = store.held()
        self.assertEqual(held, [0, 2, 4])
        self.assertIs(held.__class__, list)
        held.clear()
        self.assertEqual(store.held(), [0, 2, 4])
        self.assertEqual(store.read(2), 1)


class UsedOn(unittest.TestCase):
    def test_a_put_at_which_the_block_fails(self):
        store = small_store([(0, 2)])
        store.write(0, 10)
        store.write(1, 11)
        book = store.book.tell()
        self.assertEqual(store.spot(), 2)
        refusal = refusal_of(store.write, 2, 12)
        self.assertIs(refusal.__class__, BlockFailed)
        self.assertEqual(store.book.tell(), book)
        self.assertEqual((store.good(), store.spot()), ([1, 2], 3))
        self.assertEqual([store.read(sheet) for sheet in range(5)], [10, 11, None, None, None])
        self.assertEqual(store.write(2, 12), 3)
        self.assertEqual(store.chip.read(3), (3 * 128 + 2, 12))
        self.assertEqual(store.write(0, 13), 4)
        self.assertEqual([store.read(sheet) for sheet in range(5)], [13, 11, 12, None, None])
        self.assertEqual(store.book.tell(), ([(0, 4), (1, 1), (2, 3)], [1, 2, 0], [2, 2, 0], [1, 3, 0], 5))

    def test_one_block_after_another_fails(self):
        store = small_store([(0, 1), (1, 2), (2, 0)])
        told = []
        for value in range(7):
            refusal = refusal_of(store.write, 0, value)
            told.append((refusal.__class__, store.spot(), store.read(0)))
        nothing = None.__class__
        self.assertEqual(told, [
            (nothing, 1, 0), (BlockFailed, 3, 0), (nothing, 4, 2), (nothing, 5, 3),
            (BlockFailed, 6, 3), (BlockFailed, None, 3), (NoRoom, None, 3),
        ])
        self.assertEqual([deed[1:] for deed in store.chip.deeds()],
                         [(0, True), (1, False), (3, True), (4, True), (5, False), (6, False)])

    def test_the_dark_and_back(self):
        store = small_store()
        store.chip.cut_after(2)
        store.write(0, 1)
        store.write(1, 2)
        book = store.book.tell()
        for ask in [(store.write, 0, 3), (store.give_up, [0]), (store.set_down, 0, 3), (store.lay, 0, 3),
                    (store.read, 0)]:
            self.assertIs(refusal_of(*ask).__class__, PowerGone)
            self.assertEqual(store.book.tell(), book)
        store.chip.power_on()
        self.assertEqual(store.write(0, 3), 2)
        self.assertEqual([store.read(0), store.read(1)], [3, 2])


class LikeADict(unittest.TestCase):
    """Rows of asks, beside a dict of what was told done."""

    def step(self, draw, store, kept):
        sheet = draw.choice([0, 1, 2, 3, 4, 4, -1, 5, True, None])
        deed = draw.randrange(10)
        if deed == 0:
            store.chip.cut_after(draw.randrange(4))
        elif deed == 1:
            store.chip.power_on()
        elif deed < 4:
            sheets = [sheet, draw.randrange(5)][:draw.randrange(3)]
            self.asked(store, lambda: self.give_up(store, sheets, kept))
        else:
            value = draw.choice([0, 1, 10 ** 30 - 1, 10 ** 30, -1, False, draw.randrange(1000)])
            self.asked(store, lambda: self.write(store, sheet, value, kept))

    def write(self, store, sheet, value, kept):
        page = store.write(sheet, value)
        kept[sheet] = value
        self.assertEqual(store.chip.deeds()[-1], ("put", page, True))

    def give_up(self, store, sheets, kept):
        gone = set(sheets) & set(kept)
        self.assertEqual(store.give_up(sheets), len(gone))
        for sheet in gone:
            kept.pop(sheet)

    def asked(self, store, ask):
        """An ask does at most one deed, and leaves the book as it was where it is refused."""
        before = (store.book.tell(), store.chip.deeds())
        refusal = refusal_of(ask)
        if refusal is not None:
            self.assertEqual(store.book.tell(), before[0])
        deeds = store.chip.deeds()[len(before[1]):]
        if refusal.__class__ in (NoSheet, NoValue, Full, NoRoom, PowerGone):
            self.assertEqual(deeds, [])
        elif refusal.__class__ is BlockFailed:
            self.assertEqual([deed[2] for deed in deeds], [False])
        else:
            self.assertIsNone(refusal)
            self.assertTrue(all(deed[2] for deed in deeds) and len(deeds) <= 1)

    def check(self, store, kept):
        self.assertEqual(store.held(), sorted(kept))
        for sheet in range(5):
            if sheet in kept and store.chip.is_dark():
                self.assertIs(refusal_of(store.read, sheet).__class__, PowerGone)
            else:
                self.assertEqual(store.read(sheet), kept.get(sheet))

    def test_rows_of_asks(self):
        draw = random.Random(27)
        for times in range(150):
            ills = [(block, draw.randrange(12)) for block in draw.sample(range(4), draw.randrange(4))]
            store = Plain(Chip(4, 6, 99, ills), Terms(4, 6, 5, 3))
            kept = {}
            for step in range(60):
                self.step(draw, store, kept)
                self.check(store, kept)


if __name__ == "__main__":
    unittest.main()
