"""Points 42, 43 and 44: a making of room, its paper, and how an ask is made ready for."""

import unittest

from tests.helper import (NotingRule, deeds_of, deeds_told, noted, pages_of, put_otherwise, reads_of, refusal_of,
                          state_of, two_live_blocks)
from wornpages.chip import Chip
from wornpages.coming import book_of
from wornpages.errors import Full, NoRoom, NoSheet, NoValue, PowerGone
from wornpages.even import Even
from wornpages.marks import ROLL, bits_of, mark_of
from wornpages.rules import Eldest, Fewest, Follow, Rule, Turned
from wornpages.store import Store
from wornpages.sure import Sure
from wornpages.terms import Terms

KINDS = [Store, Even, Sure]

OPTIONS = [(0, 3, 0, 1), (1, 3, 0, 5)]

# What becomes of the store of two_live_blocks where block 1 is chosen.
PAPER = ("rule", OPTIONS, 1, [(ROLL, 4, 11), (4, 6, 12), (5, 7, 13)], True)

HELD = [0, 1, 2, 4, 5, 6, 7, 8]


def last_block():
    """A rule that chooses the block that was born last."""
    return NotingRule(Turned(Eldest()))


def unready(kind, rule):
    """A store that must make room ahead of the next page, and can."""
    store = kind(Chip(3, 2), Terms(3, 2, 5, 2), rule)
    for sheet in [0, 1, 0, 0]:
        store.write(sheet, 10 + sheet)
    return store


class NoOptions(unittest.TestCase):
    def refused(self, store):
        """Neither room nor a choice: nothing is done, and no rule is asked."""
        before = (state_of(store.chip), store.book.tell())
        for ask in [store.make_room, store.choice]:
            self.assertIs(refusal_of(ask).__class__, NoRoom)
        self.assertEqual((state_of(store.chip), store.book.tell()), before)
        self.assertEqual((store.rule.asks, store.papers), ([], []))

    def test_no_full_block(self):
        for kind in KINDS:
            for writings in range(3):
                store = kind(Chip(3, 3), Terms(3, 3, 5, 2), NotingRule(Rule()))
                for value in range(writings):
                    store.write(0, value)
                self.refused(store)

    def test_no_dead_page(self):
        store = Store(Chip(3, 3), Terms(3, 3, 5, 4), NotingRule(Rule()))
        for sheet in range(4):
            store.write(sheet, 1)
        self.refused(store)

    def test_more_live_pages_than_the_space(self):
        for kind in KINDS:
            store = kind(Chip(3, 3), Terms(3, 3, 9, 4), NotingRule(Rule()))
            noted(store, [(0, [0, 1, None]), (1, [2, None, 3]), (2, [None, 4])])
            self.assertEqual(store.space(), 1)
            self.refused(store)

    def test_in_the_dark(self):
        for kind in KINDS:
            store = kind(Chip(3, 3), Terms(3, 3, 5, 2), NotingRule(Rule()))
            store.chip.cut_after(0)
            self.refused(store)


class MakingRoom(unittest.TestCase):
    def test_the_rule_is_asked_once(self):
        for kind in KINDS:
            store = two_live_blocks(kind, last_block())
            self.assertEqual(store.make_room(), PAPER)
            self.assertEqual(store.rule.asks, [(OPTIONS, 4, 12)])

    def test_the_deeds(self):
        for kind in KINDS:
            store = two_live_blocks(kind, last_block())
            self.assertEqual(deeds_of(store.chip, store.make_room),
                             [("put", 11, True), ("put", 12, True), ("put", 13, True), ("wipe", 1, True)])
            self.assertEqual(store.chip.cleared(1), 1)

    def test_the_pages(self):
        for kind in KINDS:
            store = two_live_blocks(kind, last_block())
            before = pages_of(store.chip)
            self.assertEqual(before[4], (mark_of(5, ROLL), bits_of([0, 1, 2])))
            store.make_room()
            # The roll has the bits of what is held then, not those that it bore.
            moved = [(mark_of(12, ROLL), bits_of(HELD)), (mark_of(13, 4), 104), (mark_of(14, 5), 105)]
            self.assertEqual(pages_of(store.chip), before[:4] + [None] * 4 + before[8:11] + moved + [None] * 2)

    def test_the_book(self):
        for kind in KINDS:
            store = two_live_blocks(kind, last_block())
            store.make_room()
            where = [(0, 0), (1, 1), (2, 2), (4, 12), (5, 13), (6, 8), (7, 9), (8, 10), (ROLL, 11)]
            self.assertEqual(store.book.tell(), (where, [3, 0, 4, 2], [4, 0, 4, 2], [1, 0, 9, 13], 15))
            self.assertEqual(store.book.tell(), book_of(store.chip).tell())
            self.assertEqual(store.held(), HELD)

    def test_what_is_read_is_unchanged(self):
        for kind in KINDS:
            store = two_live_blocks(kind, last_block())
            before = reads_of(store)
            store.make_room()
            self.assertEqual(reads_of(store), before)
            self.assertEqual(before[:9], [100, 101, 102, None, 104, 105, 106, 107, 108])

    def test_the_block_that_the_rule_chooses(self):
        for rule, block, moved in [(Rule(), 0, [(0, 0, 11), (1, 1, 12), (2, 2, 13)]), (Follow([1]), 1, PAPER[3])]:
            store = two_live_blocks(Store, rule)
            self.assertEqual(store.make_room(), ("rule", OPTIONS, block, moved, True))

    def test_a_block_with_no_live_page(self):
        for kind in KINDS:
            store = kind(Chip(3, 2), Terms(3, 2, 5, 2), Fewest())
            for sheet in [0, 0, 1, 0]:
                store.write(sheet, 9)
            paper = store.make_room()
            self.assertEqual(paper, ("rule", [(0, 0, 0, 1)], 0, [], True))
            self.assertEqual(store.chip.deeds()[4:], [("wipe", 0, True)])

    def test_pages_of_a_block_go_where_the_spot_is_at_that_time(self):
        # The free blocks are used in the order of their clearings: block 3 was cleared most often.
        chip = Chip(5, 2)
        for turn in range(3):
            chip.wipe(3)
        store = Store(chip, Terms(5, 2, 9, 4), Fewest())
        for sheet in [0, 1, 2, 3, 0]:
            store.write(sheet, sheet)
        self.assertEqual((store.part(), store.free()), (2, [4, 3]))
        self.assertEqual(store.make_room()[3], [(1, 1, 5)])
        self.assertEqual((store.part(), store.free()), (None, [4, 0, 3]))

    def test_the_roll_is_moved_with_the_sheets_held_then(self):
        store = two_live_blocks(Store, Follow([0, 2]))
        store.give_up([0, 6])
        self.assertEqual(store.chip.read(11), (mark_of(12, ROLL), bits_of([1, 2, 4, 5, 7, 8])))
        self.assertEqual(store.write(9, 7), 14)
        self.assertEqual(store.make_room()[3], [(7, 9, 15), (8, 10, 0), (ROLL, 11, 1)])
        self.assertEqual(store.chip.read(1), (mark_of(18, ROLL), bits_of([1, 2, 4, 5, 7, 8, 9])))
        self.assertEqual(store.held(), [1, 2, 4, 5, 7, 8, 9])
        self.assertEqual(store.book.tell(), book_of(store.chip).tell())

    def test_steps_by_themselves(self):
        for kind in KINDS:
            store = two_live_blocks(kind, last_block())
            self.assertEqual(store.moved(1), PAPER[3])
            self.assertEqual((store.book.live[1], store.book.filled[1]), (0, 4))
            self.assertIs(store.wiped(1), True)
            self.assertEqual((store.book.filled[1], store.book.born[1]), (0, 0))
            self.assertEqual((store.rule.asks, store.papers), ([], []))
            self.assertEqual(store.book.tell(), book_of(store.chip).tell())


class CutShort(unittest.TestCase):
    def test_at_each_deed(self):
        for kind in KINDS:
            for deeds in range(4):
                store = two_live_blocks(kind, last_block())
                store.chip.cut_after(deeds)
                done = len(store.chip.deeds())
                self.assertIs(refusal_of(store.make_room).__class__, PowerGone)
                self.assertEqual(store.chip.deeds()[done:], deeds_told([PAPER])[:deeds])
                self.assertEqual((store.papers, len(store.rule.asks)), ([], 1))
                for name, here, there in PAPER[3][:deeds]:
                    self.assertEqual(store.book.where[name], there)
                for name, here, there in PAPER[3][deeds:]:
                    self.assertEqual(store.book.where[name], here)
                self.assertEqual((store.book.filled[1], store.book.born[1], store.book.stamp), (4, 5, 12 + deeds))
                store.chip.power_on()
                self.assertEqual(store.book.tell(), book_of(store.chip).tell())
                self.assertEqual(reads_of(store), reads_of(two_live_blocks(kind, Rule())))

    def test_done_by_the_last_deed_ahead_of_the_dark(self):
        for kind in KINDS:
            store = two_live_blocks(kind, last_block())
            store.chip.cut_after(4)
            self.assertEqual(store.make_room(), PAPER)
            self.assertIs(store.chip.is_dark(), True)
            self.assertEqual(store.papers, [PAPER])

    def test_what_was_moved_stays_moved(self):
        for kind in KINDS:
            store = two_live_blocks(kind, last_block())
            store.chip.cut_after(1)
            refusal_of(store.make_room)
            store.chip.power_on()
            store.take(Follow([1]))
            paper = ("rule", [(0, 3, 0, 1), (1, 2, 0, 5)], 1, [(4, 6, 12), (5, 7, 13)], True)
            self.assertEqual(store.make_room(), paper)
            self.assertEqual(store.papers, [paper])
            self.assertEqual(store.book.tell(), book_of(store.chip).tell())

    def test_a_writing_cut_short(self):
        for kind in KINDS:
            for deeds in range(3):
                store = unready(kind, Fewest())
                store.chip.cut_after(deeds)
                before = store.book.stamp
                self.assertIs(refusal_of(store.write, 0, 77).__class__, PowerGone)
                self.assertEqual(len(store.papers), 1 if deeds == 2 else 0)
                self.assertEqual(store.book.stamp, before + min(deeds, 1))
                store.chip.power_on()
                self.assertEqual(store.book.tell(), book_of(store.chip).tell())
                self.assertEqual(reads_of(store), [10, 11, None, None, None])
                store.write(0, 77)
                self.assertEqual(reads_of(store), [77, 11, None, None, None])


class Papers(unittest.TestCase):
    def test_kinds(self):
        for kind in KINDS:
            paper = two_live_blocks(kind, last_block()).make_room()
            self.assertIs(paper.__class__, tuple)
            self.assertEqual([thing.__class__ for thing in paper], [str, list, int, list, bool])
            for row in paper[1] + paper[3]:
                self.assertIs(row.__class__, tuple)
                self.assertEqual({thing.__class__ for thing in row}, {int})

    def test_given_and_kept_share_no_list(self):
        for kind in KINDS:
            store = two_live_blocks(kind, last_block())
            given = store.make_room()
            self.assertEqual(store.papers, [given])
            kept = store.papers[0]
            self.assertIsNot(given[1], kept[1])
            self.assertIsNot(given[3], kept[3])
            given[1].clear()
            given[3].append("more")
            self.assertEqual(store.papers, [PAPER])
            kept[1].append("more")
            kept[3].clear()
            self.assertEqual((given[1], given[3]), ([], PAPER[3] + ["more"]))

    def test_the_list_that_the_rule_was_handed_is_none_of_the_papers(self):
        class Keeping(Rule):
            def choose(self, tallies, pages, now):
                self.kept = tallies
                return tallies[-1][0]

        for kind in KINDS:
            store = two_live_blocks(kind, Keeping())
            given = store.make_room()
            self.assertEqual(store.rule.kept, OPTIONS)
            store.rule.kept.clear()
            self.assertEqual((given, store.papers), (PAPER, [PAPER]))

    def test_the_oldest_first(self):
        for kind in KINDS:
            store = kind(Chip(3, 2), Terms(3, 2, 5, 2), Eldest())
            given = []
            for value in range(30):
                store.write(value % 2, value)
                if store.options() != []:
                    given.append(store.make_room())
            self.assertGreater(len(given), 8)
            self.assertEqual(store.papers, given)

    def test_room_made_of_a_store_that_is_ready(self):
        for kind in KINDS:
            store = two_live_blocks(kind, last_block())
            self.assertIs(store.ready(), True)
            self.assertEqual(store.choice(), ("rule", 1))
            store.make_room()
            self.assertEqual(store.papers, [PAPER])
            self.assertIs(store.ready(), True)

    def test_a_choice_does_nothing(self):
        for kind in KINDS:
            for store in [two_live_blocks(kind, last_block()), unready(kind, last_block())]:
                for dark in [False, True]:
                    if dark:
                        store.chip.cut_after(0)
                    before = (state_of(store.chip), store.book.tell())
                    told = store.choice()
                    self.assertEqual(told, ("rule", 1))
                    self.assertEqual([thing.__class__ for thing in told], [str, int])
                    self.assertIs(told.__class__, tuple)
                    self.assertEqual((state_of(store.chip), store.book.tell()), before)
                    self.assertEqual(store.papers, [])
                self.assertEqual(store.rule.asks, [(store.options(), store.terms.pages, store.book.stamp)] * 2)

    def test_a_choice_uses_up_a_number_of_a_rule_that_follows(self):
        store = two_live_blocks(Store, Follow([1, 0, 1]))
        self.assertEqual([store.choice() for turn in range(4)],
                         [("rule", 1), ("rule", 0), ("rule", 1), ("rule", 0)])


class MakingReady(unittest.TestCase):
    def test_a_ready_store_does_nothing(self):
        for kind in KINDS:
            store = two_live_blocks(kind, last_block())
            before = (state_of(store.chip), store.book.tell())
            self.assertIsNone(store.make_ready())
            self.assertEqual((state_of(store.chip), store.book.tell()), before)
            self.assertEqual((store.papers, store.rule.asks), ([], []))

    def test_one_making(self):
        for kind in KINDS:
            store = unready(kind, Rule())
            self.assertIsNone(store.make_ready())
            paper = ("rule", [(0, 1, 0, 1), (1, 1, 0, 3)], 0, [(1, 1, 4)], True)
            self.assertEqual(store.papers, [paper])
            self.assertIs(store.ready(), True)

    def test_as_long_as_it_is_not_ready(self):
        for kind in KINDS:
            for times in range(4):
                rooms = []
                other = put_otherwise(kind, ready=lambda store: len(rooms) >= times,
                                      make_room=lambda store: rooms.append(1))
                store = other(Chip(3, 2), Terms(3, 2, 5, 2), Rule())
                self.assertIsNone(store.make_ready())
                self.assertEqual(len(rooms), times)

    def test_the_page_of_the_ask_is_its_last_deed(self):
        for kind in KINDS:
            store = unready(kind, Rule())
            self.assertEqual(deeds_of(store.chip, store.write, 1, 5),
                             [("put", 4, True), ("wipe", 0, True), ("put", 5, True)])
            store = unready(kind, Rule())
            self.assertEqual(deeds_of(store.chip, store.give_up, [1]),
                             [("put", 4, True), ("wipe", 0, True), ("put", 5, True)])
            self.assertEqual(store.chip.read(5), (mark_of(6, ROLL), bits_of([0])))
            self.assertEqual(store.held(), [0])

    def test_no_room_is_made_for_what_puts_no_page(self):
        for kind in KINDS:
            store = unready(kind, NotingRule(Rule()))
            before = (state_of(store.chip), store.book.tell())
            self.assertEqual(store.give_up([]), 0)
            self.assertEqual(store.give_up([2, 4]), 0)
            self.assertEqual(store.read(0), 10)
            for refusal, ask in [
                (NoSheet, (store.write, 5, 1)), (NoSheet, (store.write, True, 1)), (NoValue, (store.write, 0, -1)),
                (NoValue, (store.write, 4, None)), (Full, (store.write, 4, 1)), (NoSheet, (store.give_up, [0, 5])),
                (NoSheet, (store.give_up, [0, False])), (NoSheet, (store.read, -1)),
            ]:
                self.assertIs(refusal_of(*ask).__class__, refusal)
            self.assertEqual((state_of(store.chip), store.book.tell()), before)
            self.assertEqual((store.papers, store.rule.asks), ([], []))

    def test_where_no_room_can_be_made(self):
        for kind in KINDS:
            store = noted(kind(Chip(3, 3), Terms(3, 3, 9, 4), NotingRule(Rule())),
                          [(0, [0, 1, None]), (1, [2, None, 3]), (2, [None, 4])])
            for ask in [(store.make_ready,), (store.write, 0, 1), (store.give_up, [0])]:
                self.assertIs(refusal_of(*ask).__class__, NoRoom)
            self.assertEqual((store.chip.deeds(), store.rule.asks, store.papers), ([], [], []))


if __name__ == "__main__":
    unittest.main()
