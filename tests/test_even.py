"""Points 50 to 53: an even store, what may be cleared, and how blocks are changed about."""

import unittest

from tests.helper import (NotingRule, arguments_of, deeds_of, noted, put_otherwise, reads_of, refusal_of, state_of,
                          wiped_chip)
from wornpages.chip import Chip
from wornpages.coming import book_of
from wornpages.errors import NoRoom, PowerGone
from wornpages.even import Even
from wornpages.rules import Fewest, Rule, Turned
from wornpages.sure import Sure
from wornpages.terms import Terms

KINDS = [Even, Sure]


def wiped_before(wipes, spread=1, failed=(), kind=Even):
    """A store on blocks of three pages that were wiped so often, or have failed, before."""
    return kind(wiped_chip(3, wipes, failed), Terms(len(wipes), 3, 20, 1, 0, spread), NotingRule(Rule()))


def worn_by_one_sheet(kind):
    """Block 0 bears the sheets 0, 1 and 2 and was never cleared; the others were cleared once, by writings of sheet 3
    alone. The store is not ready, and by its spread only block 0 may be cleared."""
    store = kind(Chip(3, 3), Terms(3, 3, 10, 4, 0, 1), NotingRule(Fewest()))
    for sheet in [0, 1, 2] + [3] * 7:
        store.write(sheet, 50 + sheet)
    return store


class Wear(unittest.TestCase):
    def test_arguments(self):
        for kind in KINDS:
            store = wiped_before([0, 0, 0], kind=kind)
            for ask in [store.least, store.gap, store.options, store.choice, store.changes]:
                self.assertEqual(arguments_of(ask), [])

    def test_least_and_gap(self):
        for kind in KINDS:
            for wipes, least, gap in [([0, 0], 0, 0), ([3, 1, 2], 1, 2), ([0, 5], 0, 5), ([4, 4, 4], 4, 0),
                                      ([2, 7, 3, 2], 2, 5)]:
                store = wiped_before(wipes, kind=kind)
                self.assertEqual((store.least(), store.gap()), (least, gap))

    def test_failed_blocks_do_not_count(self):
        for kind in KINDS:
            for wipes, failed, least, gap in [
                ([0, 2, 3], [0], 2, 1), ([4, 2, 3], [0], 2, 1), ([1, 2, 3], [0, 1], 3, 0), ([1, 5, 3], [2], 1, 4),
            ]:
                store = wiped_before(wipes, failed=failed, kind=kind)
                self.assertEqual((store.least(), store.gap()), (least, gap))

    def test_no_good_block(self):
        for kind in KINDS:
            store = wiped_before([1, 3], failed=[0, 1], kind=kind)
            self.assertEqual((store.least(), store.gap()), (0, 0))

    def test_told_in_the_dark(self):
        store = wiped_before([3, 1, 2])
        store.chip.cut_after(0)
        self.assertEqual((store.least(), store.gap(), store.changes()), (1, 2, []))

    def test_they_grow_with_the_wipes(self):
        store = wiped_before([0, 0, 0])
        told = []
        for block in [1, 0, 1, 2, 2]:
            store.chip.wipe(block)
            told.append((store.least(), store.gap()))
        self.assertEqual(told, [(0, 1), (0, 1), (0, 2), (1, 1), (1, 1)])


class Options(unittest.TestCase):
    def test_what_may_be_cleared(self):
        for spread, blocks in [(1, [2]), (2, [0, 2]), (3, [0, 2, 3]), (4, [0, 2, 3]), (1000000, [0, 2, 3])]:
            store = wiped_before([2, 1, 1, 3, 1], spread)
            noted(store, [(0, [None] * 3), (1, [1, 2, 3]), (2, [None, 4, None]), (3, [None, None, 5])])
            self.assertEqual([tally[0] for tally in store.full_ones()], [0, 1, 2, 3])
            self.assertEqual(store.options(), [store.tally(block) for block in blocks])

    def test_least_is_that_of_the_good_blocks(self):
        store = wiped_before([1, 0, 2, 1], 1, [1])
        noted(store, [(0, [None] * 3), (2, [None] * 3)])
        self.assertEqual(store.options(), [(0, 0, 1, 1)])

    def test_the_rule_is_handed_only_these(self):
        store = wiped_before([1, 0, 0, 0])
        noted(store, [(0, [None] * 3), (1, [1, None, 2]), (2, [3, 4, None])])
        self.assertEqual(store.choice(), ("rule", 1))
        self.assertEqual(store.rule.asks, [([(1, 2, 0, 4), (2, 2, 0, 7)], 3, 10)])


class ChangingAbout(unittest.TestCase):
    def test_by_the_paper(self):
        for kind in KINDS:
            store = worn_by_one_sheet(kind)
            self.assertEqual((store.least(), store.gap(), store.ready(), store.options()), (0, 1, False, []))
            store.rule.asks.clear()
            papers = len(store.papers)
            self.assertEqual(store.choice(), ("even", 0))
            paper = ("even", [], 0, [(0, 0, 6), (1, 1, 7), (2, 2, 8)], True)
            self.assertEqual(store.make_room(), paper)
            self.assertEqual(store.papers[papers:], [paper])
            self.assertEqual(store.rule.asks, [])
            self.assertEqual((store.least(), store.gap()), (1, 0))

    def test_the_deeds_and_the_book(self):
        for kind in KINDS:
            store = worn_by_one_sheet(kind)
            before = reads_of(store)
            stamp = store.book.stamp
            self.assertEqual(deeds_of(store.chip, store.make_room),
                             [("put", 6, True), ("put", 7, True), ("put", 8, True), ("wipe", 0, True)])
            self.assertEqual(store.book.stamp, stamp + 3)
            self.assertEqual(store.book.tell(), book_of(store.chip).tell())
            self.assertEqual(reads_of(store), before)

    def test_the_ask_behind_it(self):
        for kind in KINDS:
            store = worn_by_one_sheet(kind)
            papers = len(store.papers)
            stamp = store.book.born[1]
            self.assertEqual(store.write(3, 99), 1)
            self.assertEqual(store.papers[papers:], [
                ("even", [], 0, [(0, 0, 6), (1, 1, 7), (2, 2, 8)], True),
                ("rule", [(1, 1, 1, stamp)], 1, [(3, 5, 0)], True),
            ])

    def test_which_block_is_taken(self):
        for wipes, spread, taken in [
            ([0, 0, 0, 0], 1, 0), ([1, 0, 0, 0], 1, 1), ([1, 1, 0, 0], 1, 2), ([1, 0, 1, 0], 1, 1),
            ([2, 1, 1, 0], 3, 1), ([2, 2, 1, 0], 3, 2), ([1, 2, 1, 0], 3, 0), ([3, 2, 1, 1], 2, 2),
        ]:
            store = noted(wiped_before(wipes, spread), [(2, [6, 7, 8]), (1, [3, 4, 5]), (0, [0, 1, 2])])
            self.assertEqual(store.choice(), ("even", taken))
            self.assertEqual(store.rule.asks, [])

    def test_not_a_block_with_more_live_pages_than_the_space(self):
        # A block that is not to be cleared has a dead page; the other full ones don't go into the part.
        store = noted(wiped_before([0, 1, 0, 0], 1), [(0, [0, 1, 2]), (1, [None] * 3), (2, [3, 4, 5]), (3, [6])])
        self.assertEqual((store.space(), store.full_ones()), (2, [(1, 0, 1, 4)]))
        for ask in [store.choice, store.make_room]:
            self.assertIs(refusal_of(ask).__class__, NoRoom)

    def test_none_may_be_cleared(self):
        for kind in KINDS:
            for wipes, spread in [([1, 0, 0], 1), ([2, 0, 1], 1), ([2, 0, 0], 2), ([9, 4, 4], 5)]:
                store = noted(wiped_before(wipes, spread, kind=kind), [(0, [0, 1, 2])])
                for dark in [False, True]:
                    if dark:
                        store.chip.cut_after(0)
                    before = (state_of(store.chip), store.book.tell())
                    for ask in [store.choice, store.make_room]:
                        self.assertIs(refusal_of(ask).__class__, NoRoom)
                    self.assertEqual((state_of(store.chip), store.book.tell()), before)
                    self.assertEqual((store.papers, store.rule.asks), ([], []))

    def test_none_may_be_cleared_with_a_dead_page(self):
        store = noted(wiped_before([1, 0, 0], 1), [(0, [0, None, 2])])
        self.assertEqual(len(store.full_ones()), 1)
        self.assertEqual(store.options(), [])
        self.assertIs(refusal_of(store.make_room).__class__, NoRoom)
        self.assertEqual(store.rule.asks, [])

    def test_choice_of_both_sorts_does_nothing(self):
        for kind in KINDS:
            store = worn_by_one_sheet(kind)
            for told in [("even", 0), ("rule", 1)]:
                before = (state_of(store.chip), store.book.tell(), list(store.papers))
                self.assertEqual([store.choice(), store.choice()], [told, told])
                self.assertEqual((state_of(store.chip), store.book.tell(), store.papers), before)
                store.make_room()

    def test_the_paper_that_is_kept_is_its_own(self):
        store = worn_by_one_sheet(Even)
        given = store.make_room()
        given[1].append("more")
        given[3].clear()
        self.assertEqual(store.papers[-1], ("even", [], 0, [(0, 0, 6), (1, 1, 7), (2, 2, 8)], True))

    def test_cut_short_at_each_deed(self):
        for kind in KINDS:
            for deeds in range(4):
                store = worn_by_one_sheet(kind)
                before = reads_of(store)
                papers = list(store.papers)
                store.chip.cut_after(deeds)
                self.assertIs(refusal_of(store.write, 3, 99).__class__, PowerGone)
                self.assertEqual(store.papers, papers)
                store.chip.power_on()
                self.assertEqual(reads_of(store), before)
                self.assertEqual(store.book.tell(), book_of(store.chip).tell())
                store.write(3, 99)
                self.assertEqual(reads_of(store), before[:3] + [99] + before[4:])

    def test_by_a_rule_that_goes_for_the_most_live_pages(self):
        store = worn_by_one_sheet(Even)
        store.take(Turned(Fewest()))
        self.assertEqual(store.choice(), ("even", 0))


class Changes(unittest.TestCase):
    def test_none(self):
        for kind in KINDS:
            store = worn_by_one_sheet(kind)
            self.assertNotEqual(store.papers, [])
            self.assertEqual(store.changes(), [])
            store.make_room()
            self.assertEqual(store.changes(), [(0, [2])])
            store.make_room()
            self.assertEqual([paper[0] for paper in store.papers[-2:]], ["even", "rule"])
            self.assertEqual(store.changes(), [(0, [2])])

    def two_changes(self, kind):
        """Room is made twice of a store that has no dead page; the second time the part lies behind the free block."""
        store = kind(Chip(3, 3), Terms(3, 3, 10, 4, 0, 1), Rule())
        for sheet in [0, 1, 2, 3]:
            store.write(sheet, 1)
        self.assertEqual(store.make_room(), ("even", [], 0, [(0, 0, 4), (1, 1, 5), (2, 2, 6)], True))
        self.assertEqual(store.make_room(), ("even", [], 1, [(3, 3, 7), (0, 4, 8), (1, 5, 0)], True))
        return store

    def test_takers_rise_and_stand_once(self):
        for kind in KINDS:
            self.assertEqual(self.two_changes(kind).changes(), [(0, [1, 2]), (1, [0, 2])])

    def test_what_is_told_is_the_askers_own(self):
        for kind in KINDS:
            store = self.two_changes(kind)
            told = store.changes()
            self.assertEqual([row.__class__ for row in told], [tuple, tuple])
            told[0][1].append(7)
            told.pop()
            self.assertEqual(store.changes(), [(0, [1, 2]), (1, [0, 2])])
            before = store.changes()
            store.make_room()
            self.assertEqual(before, [(0, [1, 2]), (1, [0, 2])])
            self.assertEqual(len(store.changes()), 3)


class OwnMethods(unittest.TestCase):
    def test_what_may_be_cleared_goes_by_least(self):
        for kind in KINDS:
            other = put_otherwise(kind, least=lambda store: 5)
            store = noted(wiped_before([6, 5, 0, 0], 1, kind=other), [(0, [None] * 3), (1, [None] * 3)])
            self.assertEqual([tally[0] for tally in store.options()], [1])
            self.assertEqual(store.gap(), 1)

    def test_a_changing_about_goes_by_full_ones(self):
        for kind in KINDS:
            other = put_otherwise(kind, full_ones=lambda store: [(1, 3, 0, 4), (2, 3, 0, 7)])
            self.assertEqual(wiped_before([0, 0, 0], kind=other).choice(), ("even", 1))

    def test_changes_go_by_the_papers(self):
        for kind in KINDS:
            store = wiped_before([0, 0, 0], kind=kind)
            store.papers.append(("even", [], 2, [(5, 6, 3), (4, 7, 0), (3, 8, 5)], False))
            self.assertEqual(store.changes(), [(2, [0, 1])])
            store = wiped_before([0] * 16, kind=kind)
            store.papers.append(("even", [], 2, [(5, 6, 45), (4, 7, 24), (3, 8, 3)], True))
            self.assertEqual(store.changes(), [(2, [1, 8, 15])])


if __name__ == "__main__":
    unittest.main()
