"""Points 60 to 64: a sure store, blocks that fail at its deeds, and a store that is worn."""

import unittest

from tests.helper import (NotingRule, arguments_of, deeds_of, fail_block, pages_of, put_otherwise, reads_of, refusal_of,
                          state_of, two_live_blocks, wiped_chip)
from wornpages.chip import Chip
from wornpages.coming import book_of
from wornpages.errors import BlockFailed, Full, NoRoom, NoSheet, NoValue, PowerGone, WornOut
from wornpages.marks import ROLL, bits_of, mark_of
from wornpages.rules import Follow, Rule
from wornpages.sure import Sure
from wornpages.terms import Terms

HELD = [0, 1, 2, 4, 5, 6, 7, 8]


def failed_before(blocks, ill, failed):
    """A store on blocks of three pages, of which these failed before it was made."""
    return Sure(wiped_chip(3, [0] * blocks, failed), Terms(blocks, 3, 5, 1, ill), Rule())


def small(ill, ills):
    """A store of two closed blocks of two pages on a chip with these ills."""
    return Sure(Chip(3 + ill, 2, 100, ills), Terms(3 + ill, 2, 5, 2, ill), NotingRule(Rule()))


class Failures(unittest.TestCase):
    def test_arguments(self):
        store = small(1, None)
        for ask, names in [(store.failures, []), (store.worn, []), (store.reserve, []), (store.make_ready, []),
                           (store.lay, ["name", "value"]), (store.wiped, ["block"])]:
            self.assertEqual(arguments_of(ask), names)

    def test_blocks_that_failed_before(self):
        for blocks, ill, failed, reserve, worn in [
            (4, 2, [], 3, False), (4, 2, [1], 2, False), (4, 2, [0, 3], 1, False), (4, 2, [0, 1, 3], 0, True),
            (4, 2, [0, 1, 2, 3], -1, True), (3, 0, [], 1, False), (3, 0, [2], 0, True), (3, 0, [0, 1, 2], -2, True),
            (5, 1, [4], 1, False), (5, 1, [2, 4], 0, True),
        ]:
            store = failed_before(blocks, ill, failed)
            self.assertEqual((store.failures(), store.reserve()), (len(failed), reserve))
            self.assertIs(store.worn(), worn)

    def test_told_in_the_dark(self):
        store = failed_before(5, 1, [2, 4])
        store.chip.cut_after(0)
        self.assertEqual((store.failures(), store.reserve(), store.worn()), (2, 0, True))

    def test_they_grow_when_blocks_fail(self):
        chip = Chip(5, 3, 100, [(1, 0), (3, 0), (4, 0)])
        store = Sure(chip, Terms(5, 3, 5, 1, 2), Rule())
        told = [(store.failures(), store.worn(), store.reserve())]
        for block in [3, 1, 4]:
            fail_block(chip, block)
            told.append((store.failures(), store.worn(), store.reserve()))
        self.assertEqual(told, [(0, False, 3), (1, False, 2), (2, False, 1), (3, True, 0)])

    def test_used_with_as_many_failures_as_ill(self):
        store = failed_before(5, 2, [0, 3])
        self.assertEqual([store.write(0, value) for value in range(5)], [3, 4, 5, 6, 7])
        self.assertEqual(store.read(0), 4)
        for value in range(50):
            store.write(0, value)
        self.assertEqual(store.read(0), 49)

    def test_worn_goes_by_failures_and_reserve_too(self):
        other = put_otherwise(Sure, failures=lambda store: 2)
        store = other(Chip(5, 3), Terms(5, 3, 5, 1, 1), Rule())
        self.assertEqual((store.worn(), store.reserve()), (True, 0))
        self.assertIs(refusal_of(store.make_ready).__class__, WornOut)
        self.assertIs(refusal_of(store.write, 0, 1).__class__, WornOut)
        store.__class__ = put_otherwise(Sure, worn=lambda store: True)
        self.assertIs(refusal_of(store.make_ready).__class__, WornOut)


class FailingAtAPut(unittest.TestCase):
    def test_of_a_writing(self):
        store = small(1, [(0, 1)])
        store.write(0, 70)
        self.assertEqual(deeds_of(store.chip, store.write, 1, 71), [("put", 1, False), ("put", 2, True)])
        self.assertEqual(pages_of(store.chip), [(mark_of(1, 0), 70), None, (mark_of(2, 1), 71)] + [None] * 5)
        self.assertEqual(store.book.tell(), ([(0, 0), (1, 2)], [1, 1, 0, 0], [1, 1, 0, 0], [1, 2, 0, 0], 3))
        self.assertEqual((reads_of(store)[:2], store.papers), ([70, 71], []))

    def test_the_page_at_last_is_told(self):
        store = small(1, [(0, 1)])
        self.assertEqual([store.write(0, 70), store.write(1, 71), store.write(1, 72)], [0, 2, 3])
        store = small(1, [(0, 1)])
        self.assertEqual([store.lay(0, 70), store.lay(ROLL, 1)], [0, 2])
        self.assertEqual(store.chip.read(2), (mark_of(2, ROLL), 1))

    def test_of_a_giving_up(self):
        store = small(1, [(1, 0)])
        store.write(3, 70)
        store.write(4, 71)
        self.assertEqual(deeds_of(store.chip, store.give_up, [3]), [("put", 2, False), ("put", 4, True)])
        self.assertEqual(store.chip.read(4), (mark_of(3, ROLL), bits_of([4])))
        self.assertEqual((store.held(), store.book.where), ([4], {4: 1, ROLL: 4}))

    def test_several_one_behind_the_other(self):
        store = small(3, [(0, 0), (1, 0), (2, 0)])
        self.assertEqual(store.write(0, 70), 6)
        self.assertEqual(store.chip.deeds(),
                         [("put", 0, False), ("put", 2, False), ("put", 4, False), ("put", 6, True)])
        self.assertEqual(store.chip.read(6), (mark_of(1, 0), 70))
        self.assertEqual((store.failures(), store.worn(), store.reserve()), (3, False, 1))

    def test_several_with_a_part_that_fails(self):
        store = small(2, [(0, 1), (1, 0)])
        store.write(0, 70)
        self.assertEqual(deeds_of(store.chip, store.write, 0, 71),
                         [("put", 1, False), ("put", 2, False), ("put", 4, True)])
        self.assertEqual(store.chip.read(4), (mark_of(2, 0), 71))

    def test_of_a_page_that_is_moved(self):
        # Block 3 takes the first of the pages that are moved to it, and fails at the second.
        store = two_live_blocks(Sure, Follow([1]), 1, [(3, 1)])
        before = reads_of(store)
        self.assertEqual(store.make_room(),
                         ("rule", [(0, 3, 0, 1), (1, 3, 0, 5)], 1, [(ROLL, 4, 11), (4, 6, 12), (5, 7, 16)], True))
        self.assertEqual(store.chip.deeds()[11:], [("put", 11, True), ("put", 12, True), ("put", 13, False),
                                                   ("put", 16, True), ("wipe", 1, True)])
        self.assertEqual(store.chip.read(16), (mark_of(14, 5), 105))
        self.assertEqual(reads_of(store), before)
        self.assertEqual(store.book.tell(), book_of(store.chip).tell())

    def test_a_roll_that_is_moved(self):
        store = two_live_blocks(Sure, Follow([1]), 1, [(2, 3)])
        moved = [(ROLL, 4, 12), (4, 6, 13), (5, 7, 14)]
        self.assertEqual(store.make_room(), ("rule", [(0, 3, 0, 1), (1, 3, 0, 5)], 1, moved, True))
        self.assertEqual(store.chip.deeds()[11:13], [("put", 11, False), ("put", 12, True)])
        self.assertEqual(store.chip.read(12), (mark_of(12, ROLL), bits_of(HELD)))

    def test_live_pages_stay_live_in_the_failed_block(self):
        store = small(1, [(0, 1)])
        store.write(0, 70)
        store.write(1, 71)
        self.assertIs(store.chip.failed(0), True)
        for value in range(40):
            store.write(1, value)
            self.assertEqual((store.book.where[0], store.read(0), store.book.live[0]), (0, 70, 1))
        store.write(0, 72)
        self.assertEqual((store.book.live[0], store.read(0)), (0, 72))
        for value in range(40):
            store.write(value % 2, value)
        self.assertEqual([deed for deed in store.chip.deeds() if deed[1] < 2 and deed[0] == "put"],
                         [("put", 0, True), ("put", 1, False)])
        self.assertNotIn(0, [paper[2] for paper in store.papers])
        self.assertEqual(store.chip.read(0), (mark_of(1, 0), 70))

    def test_power_that_goes_with_the_put_that_fails(self):
        for ill, refusal in [(1, PowerGone), (0, WornOut)]:
            store = small(ill, [(0, 1)])
            store.write(0, 70)
            before = store.book.tell()
            store.chip.cut_after(1)
            self.assertIs(refusal_of(store.write, 1, 71).__class__, refusal)
            self.assertEqual(store.chip.deeds()[1:], [("put", 1, False)])
            self.assertEqual(store.book.tell(), before)
            store.chip.power_on()
            self.assertEqual(store.book.tell(), book_of(store.chip).tell())
            self.assertEqual(reads_of(store), [70, None, None, None, None])

    def test_set_down_by_itself_is_refused_as_the_chip_refuses(self):
        store = small(1, [(0, 0)])
        self.assertIs(refusal_of(store.set_down, 0, 1).__class__, BlockFailed)
        self.assertEqual(store.set_down(0, 1), 2)

    def test_lay_goes_by_set_down_each_time(self):
        spots = [0, 2, 4, 6]
        other = put_otherwise(Sure, spot=lambda store: spots.pop(0))
        store = other(Chip(5, 2, 9, [(0, 0), (1, 0)]), Terms(5, 2, 5, 2, 2), Rule())
        self.assertEqual(store.lay(3, 9), 4)
        self.assertEqual(spots, [6])

    def test_where_there_is_no_spot(self):
        store = small(1, None)
        for block in range(4):
            for turn in range(2):
                store.set_down(0, 1)
        self.assertIs(refusal_of(store.lay, 0, 1).__class__, NoRoom)


class FailingAtAWipe(unittest.TestCase):
    def test_the_paper_and_the_book(self):
        store = two_live_blocks(Sure, Follow([1]), 1, [(1, 4)])
        before = reads_of(store)
        borne = pages_of(store.chip)
        paper = ("rule", [(0, 3, 0, 1), (1, 3, 0, 5)], 1, [(ROLL, 4, 11), (4, 6, 12), (5, 7, 13)], False)
        given = store.make_room()
        self.assertEqual(given, paper)
        self.assertIs(given[4], False)
        self.assertEqual(store.papers, [paper])
        self.assertEqual(store.chip.deeds()[11:], [("put", 11, True), ("put", 12, True), ("put", 13, True),
                                                   ("wipe", 1, False)])
        self.assertEqual(pages_of(store.chip)[:11], borne[:11])
        self.assertEqual((store.book.filled[1], store.book.live[1], store.book.born[1]), (4, 0, 5))
        self.assertEqual(reads_of(store), before)
        self.assertEqual(store.book.tell(), book_of(store.chip).tell())
        self.assertEqual((store.failures(), store.reserve(), store.chip.cleared(1)), (1, 1, 0))

    def test_by_itself(self):
        for ills, wiped in [([(0, 0)], False), (None, True)]:
            store = small(1, ills)
            told = store.wiped(0)
            self.assertIs(told, wiped)
            self.assertEqual(store.chip.failed(0), not wiped)

    def test_a_block_that_was_cleared_as_often_as_it_can_be(self):
        store = Sure(Chip(4, 2, 0), Terms(4, 2, 5, 2, 1), Rule())
        for value in range(4):
            store.write(0, value)
        self.assertEqual(deeds_of(store.chip, store.write, 0, 4), [("wipe", 0, False), ("put", 4, True)])
        self.assertEqual(store.papers, [("rule", [(0, 0, 0, 1), (1, 1, 0, 3)], 0, [], False)])
        self.assertEqual(store.good(), [1, 2, 3])

    def test_an_ask_goes_on_behind_it(self):
        store = small(1, [(0, 2)])
        for sheet in [0, 1, 0, 0]:
            store.write(sheet, 10 + sheet)
        self.assertEqual(deeds_of(store.chip, store.write, 1, 99),
                         [("put", 4, True), ("wipe", 0, False), ("put", 5, True)])
        self.assertEqual(store.papers, [("rule", [(0, 1, 0, 1), (1, 1, 0, 3)], 0, [(1, 1, 4)], False)])
        self.assertEqual(reads_of(store)[:2], [10, 99])


class WornAtADeed(unittest.TestCase):
    def refused(self, store, deeds, ask, *handed):
        """The ask is refused with WornOut behind these deeds, without a paper; what is read is unchanged."""
        before = (reads_of(store), store.held(), list(store.papers))
        done = len(store.chip.deeds())
        self.assertIs(refusal_of(ask, *handed).__class__, WornOut)
        self.assertEqual(store.chip.deeds()[done:], deeds)
        self.assertEqual((reads_of(store), store.held(), store.papers), before)
        self.assertEqual(store.book.tell(), book_of(store.chip).tell())
        self.assertIs(store.worn(), True)
        self.assertIs(refusal_of(ask, *handed).__class__, WornOut)
        self.assertEqual(len(store.chip.deeds()), done + len(deeds))

    def test_at_the_put_of_a_writing(self):
        store = small(0, [(0, 1)])
        store.write(0, 70)
        self.refused(store, [("put", 1, False)], store.write, 0, 71)

    def test_at_a_later_put_of_a_writing(self):
        store = small(1, [(0, 1), (1, 0)])
        store.write(0, 70)
        self.refused(store, [("put", 1, False), ("put", 2, False)], store.write, 1, 71)

    def test_at_the_put_of_a_roll(self):
        store = small(0, [(0, 1)])
        store.write(0, 70)
        self.refused(store, [("put", 1, False)], store.give_up, [0])
        self.assertEqual(store.held(), [0])

    def test_at_a_page_that_is_moved(self):
        for limit in range(3):
            # The roll goes to the last page of block 2, the others to block 3.
            ills = [(2, 3)] if limit == 0 else [(3, limit - 1)]
            store = two_live_blocks(Sure, Follow([1]), 0, ills)
            before = reads_of(store)
            done = len(store.chip.deeds())
            self.assertIs(refusal_of(store.make_room).__class__, WornOut)
            deeds = [("put", 11, True), ("put", 12, True), ("put", 13, True)][:limit]
            self.assertEqual(store.chip.deeds()[done:], deeds + [("put", 11 + limit, False)])
            self.assertEqual((reads_of(store), store.papers), (before, []))
            self.assertEqual([store.book.where[name] for name in [ROLL, 4, 5]],
                             [11, 12, 13][:limit] + [4, 6, 7][limit:])
            self.assertEqual(store.book.tell(), book_of(store.chip).tell())

    def test_in_the_midst_of_a_writing(self):
        store = small(0, [(2, 0)])
        for sheet in [0, 1, 0, 0]:
            store.write(sheet, 10 + sheet)
        self.refused(store, [("put", 4, False)], store.write, 1, 99)

    def test_at_a_wipe(self):
        store = small(0, [(0, 2)])
        for sheet in [0, 1, 0, 0]:
            store.write(sheet, 10 + sheet)
        self.refused(store, [("put", 4, True), ("wipe", 0, False)], store.write, 1, 99)
        self.assertEqual((store.book.where[1], store.book.live[0], store.book.filled[0]), (4, 0, 2))

    def test_at_the_wipe_of_a_room_that_is_made_outright(self):
        store = two_live_blocks(Sure, Follow([1]), 0, [(1, 4)])
        before = reads_of(store)
        self.assertIs(refusal_of(store.make_room).__class__, WornOut)
        self.assertEqual(store.chip.deeds()[11:], [("put", 11, True), ("put", 12, True), ("put", 13, True),
                                                   ("wipe", 1, False)])
        self.assertEqual((store.papers, reads_of(store)), ([], before))
        self.assertEqual(store.book.tell(), book_of(store.chip).tell())

    def test_with_the_last_deed_ahead_of_the_dark(self):
        store = two_live_blocks(Sure, Follow([1]), 0, [(1, 4)])
        store.chip.cut_after(4)
        self.assertIs(refusal_of(store.make_room).__class__, WornOut)
        self.assertEqual(store.papers, [])

    def test_power_gone_ahead_of_the_failing_deed(self):
        store = two_live_blocks(Sure, Follow([1, 1]), 0, [(1, 4)])
        store.chip.cut_after(3)
        self.assertIs(refusal_of(store.make_room).__class__, PowerGone)
        self.assertIs(store.worn(), False)
        store.chip.power_on()
        self.assertIs(refusal_of(store.make_room).__class__, WornOut)


class Worn(unittest.TestCase):
    def worn_stores(self):
        """Worn stores that hold the sheets 0 and 1, all that they may: one with clear pages, one without."""
        for sheets in [[0, 1], [0, 1, 0, 0]]:
            store = small(1, [(2, 0), (3, 0)])
            for sheet in sheets:
                store.write(sheet, 10 + sheet)
            fail_block(store.chip, 2)
            self.assertIs(store.worn(), False)
            fail_block(store.chip, 3)
            self.assertIs(store.worn(), True)
            yield store

    def each(self):
        """The worn stores with power, then in the dark."""
        for store in self.worn_stores():
            yield store
            store.chip.cut_after(0)
            yield store

    def test_what_is_refused_and_in_which_order(self):
        for store in self.each():
            before = (state_of(store.chip), store.book.tell())
            for refusal, ask in [
                (NoSheet, (store.write, 5, -1)), (NoSheet, (store.write, True, 1)), (NoValue, (store.write, 0, -1)),
                (NoValue, (store.write, 4, 10 ** 30)), (Full, (store.write, 4, 1)), (WornOut, (store.write, 0, 1)),
                (WornOut, (store.write, 1, 10 ** 30 - 1)), (NoSheet, (store.give_up, [0, 5])),
                (NoSheet, (store.give_up, [2, None])), (WornOut, (store.give_up, [0])),
                (WornOut, (store.give_up, [4, 1, 4])), (WornOut, (store.make_ready,)), (NoSheet, (store.read, 5)),
            ]:
                self.assertIs(refusal_of(*ask).__class__, refusal)
            self.assertEqual((state_of(store.chip), store.book.tell()), before)
            self.assertEqual((store.papers, store.rule.asks), ([], []))

    def test_what_is_not_held_is_given_up_with_no_deed(self):
        for store in self.each():
            before = (state_of(store.chip), store.book.tell())
            self.assertEqual([store.give_up([]), store.give_up([2]), store.give_up([4, 3, 4])], [0, 0, 0])
            self.assertEqual((state_of(store.chip), store.book.tell()), before)

    def test_reads_as_ever(self):
        for store in self.worn_stores():
            self.assertEqual(reads_of(store), [10, 11, None, None, None])
            store.chip.cut_after(0)
            self.assertEqual((store.held(), store.read(3)), ([0, 1], None))
            self.assertIs(refusal_of(store.read, 0).__class__, PowerGone)

    def test_a_sheet_that_is_not_held_where_the_share_is_not_reached(self):
        store = small(0, [(2, 0)])
        store.write(0, 10)
        fail_block(store.chip, 2)
        for dark in [False, True]:
            if dark:
                store.chip.cut_after(0)
            self.assertIs(refusal_of(store.write, 3, 1).__class__, WornOut)

    def test_made_on_a_chip_that_is_worn(self):
        store = failed_before(4, 1, [0, 2])
        self.assertIs(refusal_of(store.write, 0, 1).__class__, WornOut)
        self.assertIs(refusal_of(store.make_ready).__class__, WornOut)
        self.assertEqual((store.give_up([0]), store.held(), store.read(0)), (0, [], None))

    def test_a_store_that_is_not_worn_is_made_ready(self):
        store = small(1, [(0, 0)])
        fail_block(store.chip, 0)
        self.assertIsNone(store.make_ready())
        self.assertEqual(store.write(0, 1), 2)


if __name__ == "__main__":
    unittest.main()
