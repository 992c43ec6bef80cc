"""Points 3, 40 and 41: a store that makes room, its rule, its reserve, its space and its options."""

import unittest

from tests.helper import NotingRule, arguments_of, fail_block, noted, refusal_of, state_of, wiped_chip
from wornpages.book import Book
from wornpages.chip import Chip
from wornpages.errors import NoTerms
from wornpages.even import Even
from wornpages.plain import Plain
from wornpages.rules import Eldest, Fewest, Rule, Turned
from wornpages.store import Store
from wornpages.sure import Sure
from wornpages.terms import Terms

KINDS = [Store, Even, Sure]


def small(ill=0, wipes=(0, 0, 0, 0, 0), failed=(), kind=Store):
    """A store on five blocks of three pages that were wiped so often, or have failed, before."""
    return kind(wiped_chip(3, wipes, failed), Terms(5, 3, 20, 1, ill), Rule())


def filled_store(ill, full, part):
    """So many full blocks, then a part with so many pages written, 0 for none; the rest is free."""
    names = [(block, [None, None, None]) for block in range(full)]
    return noted(small(ill), names + [(full, [None] * part)])


class Making(unittest.TestCase):
    def test_classes_and_arguments(self):
        self.assertEqual([kind.__bases__ for kind in KINDS], [(Plain,), (Store,), (Even,)])
        for kind in KINDS:
            self.assertEqual(arguments_of(kind), ["chip", "terms", "rule"])
            store = kind(chip=Chip(3, 2), terms=Terms(3, 2, 5, 2), rule=Fewest())
            for ask, names in [
                (store.take, ["rule"]), (store.reserve, []), (store.space, []), (store.tally, ["block"]),
                (store.full_ones, []), (store.options, []), (store.choice, []), (store.moved, ["block"]),
                (store.wiped, ["block"]), (store.make_room, []), (store.make_ready, []),
            ]:
                self.assertEqual(arguments_of(ask), names)

    def test_fields(self):
        for kind in KINDS:
            chip = Chip(3, 4)
            terms = Terms(3, 4, 5, 2)
            rule = Turned(Fewest())
            store = kind(chip, terms, rule)
            self.assertIs(store.chip, chip)
            self.assertIs(store.terms, terms)
            self.assertIs(store.rule, rule)
            self.assertEqual(store.papers, [])
            self.assertIs(store.papers.__class__, list)
            self.assertIs(store.book.__class__, Book)
            self.assertEqual(store.book.tell(), Book(3, 4).tell())
            self.assertEqual((store.held(), chip.deeds()), ([], []))

    def test_two_stores_have_nothing_in_common(self):
        one, other = [Store(Chip(3, 2), Terms(3, 2, 5, 2), Rule()) for turn in range(2)]
        for value in range(20):
            one.write(0, value)
        self.assertNotEqual(one.papers, [])
        self.assertEqual((other.papers, other.held(), other.chip.deeds()), ([], [], []))

    def test_refused_as_a_plain_store_is(self):
        for kind in KINDS:
            for dark in [False, True]:
                chip = Chip(4, 4)
                if dark:
                    chip.cut_after(0)
                before = state_of(chip)
                for blocks, pages in [(3, 4), (5, 4), (4, 3), (4, 5), (2, 8), (8, 2)]:
                    refusal = refusal_of(kind, chip, Terms(blocks, pages, 5, 1), Rule())
                    self.assertIs(refusal.__class__, NoTerms)
                store = kind(chip, Terms(4, 4, 5, 1), Rule())
                self.assertIs(store.ready(), True)
                self.assertEqual(state_of(chip), before)

    def test_made_in_the_dark_and_used_on(self):
        for kind in KINDS:
            chip = Chip(3, 2)
            chip.cut_after(0)
            store = kind(chip, Terms(3, 2, 5, 2), Rule())
            chip.power_on()
            self.assertEqual([store.write(4, value) for value in range(3)], [0, 1, 2])
            self.assertEqual(store.read(4), 2)


class Taking(unittest.TestCase):
    def two_options(self, kind, rule):
        """Blocks 0 and 1 are full, each with a dead page; block 0 has more live pages."""
        store = kind(Chip(4, 3), Terms(4, 3, 9, 5), rule)
        for sheet in [0, 1, 0, 2, 2, 2]:
            store.write(sheet, 5)
        return store

    def test_the_very_rule(self):
        for kind in KINDS:
            store = self.two_options(kind, Rule())
            for rule in [Fewest(), Fewest(), Turned(Rule())]:
                self.assertIsNone(store.take(rule))
                self.assertIs(store.rule, rule)

    def test_another_rule_between_two_asks(self):
        for kind in KINDS:
            store = self.two_options(kind, Rule())
            before = (state_of(store.chip), store.book.tell())
            for rule, block in [(Fewest(), 1), (Eldest(), 0), (Turned(Eldest()), 1), (Turned(Fewest()), 0)]:
                store.take(rule)
                self.assertEqual(store.choice(), ("rule", block))
            self.assertEqual((state_of(store.chip), store.book.tell()), before)
            self.assertEqual(store.papers, [])

    def test_the_rule_that_was_taken_is_asked_alone(self):
        for kind in KINDS:
            first = NotingRule(Rule())
            then = NotingRule(Fewest())
            store = self.two_options(kind, first)
            self.assertEqual(store.make_room()[2], 0)
            store.take(then)
            self.assertEqual(store.make_room()[2], 1)
            self.assertEqual((len(first.asks), len(then.asks)), (1, 1))

    def test_taken_ahead_of_the_first_ask(self):
        store = Store(Chip(4, 3), Terms(4, 3, 9, 5), Rule())
        store.take(Fewest())
        for sheet in [0, 1, 0, 2, 2, 2]:
            store.write(sheet, 5)
        self.assertEqual(store.choice(), ("rule", 1))


class Reserve(unittest.TestCase):
    def test_one_and_ill(self):
        for kind in KINDS:
            for blocks in range(2, 17):
                for ill in range(blocks - 1):
                    store = kind(Chip(blocks, 3), Terms(blocks, 3, 5, 1, ill), Rule())
                    self.assertEqual(store.reserve(), 1 + ill)

    def test_ready(self):
        for ill, full, part, ready in [
            (0, 0, 0, True), (0, 3, 0, True), (0, 4, 0, False), (0, 5, 0, False),
            (0, 3, 1, True), (0, 3, 2, True), (0, 4, 1, False), (0, 4, 2, False),
            (1, 2, 0, True), (1, 3, 0, False), (1, 2, 1, True), (1, 3, 2, False), (1, 1, 2, True),
            (3, 0, 0, True), (3, 1, 0, False), (3, 0, 1, True), (3, 1, 1, False),
        ]:
            self.assertIs(filled_store(ill, full, part).ready(), ready)

    def test_ready_by_the_words(self):
        for ill in range(4):
            for full in range(6):
                for part in range(3 if full < 5 else 1):
                    store = filled_store(ill, full, part)
                    free = 5 - full - (1 if part else 0)
                    self.assertEqual(len(store.free()), free)
                    told = (part > 0 and free >= 1 + ill) or free > 1 + ill
                    self.assertIs(store.ready(), told)


class Tallies(unittest.TestCase):
    def test_each_sort_of_block(self):
        for kind in KINDS:
            store = small(0, (2, 0, 1, 3, 0), [3], kind)
            noted(store, [(0, [None, 7, 8]), (2, [9, None])])
            self.assertEqual([store.tally(block) for block in range(5)],
                             [(0, 2, 2, 1), (1, 0, 0, 0), (2, 1, 1, 4), (3, 0, 3, 0), (4, 0, 0, 0)])

    def test_a_failed_block_with_pages(self):
        chip = Chip(3, 2, 9, [(0, 2)])
        store = Store(chip, Terms(3, 2, 5, 2), Rule())
        for sheet in [1, 2]:
            store.write(sheet, 5)
        fail_block(chip, 0)
        self.assertEqual(store.tally(0), (0, 2, 0, 1))
        store.write(1, 6)
        self.assertEqual(store.tally(0), (0, 1, 0, 1))
        self.assertEqual(store.tally(1), (1, 1, 0, 3))

    def test_the_kinds(self):
        tally = noted(small(), [(0, [None, 7, 8])]).tally(0)
        self.assertEqual([part.__class__ for part in tally], [int] * 4)
        self.assertIs(tally.__class__, tuple)

    def test_of_a_block_that_was_wiped(self):
        store = Store(Chip(3, 2), Terms(3, 2, 5, 2), Rule())
        for value in range(5):
            store.write(0, value)
        self.assertEqual([store.tally(block) for block in range(3)], [(0, 0, 1, 0), (1, 0, 0, 3), (2, 1, 0, 5)])


class Space(unittest.TestCase):
    def test_as_many_free_blocks_as_the_reserve_or_more(self):
        for ill, full, part in [(0, 4, 0), (0, 3, 1), (0, 3, 2), (0, 3, 0), (0, 0, 0), (0, 1, 2), (1, 3, 0), (1, 2, 1),
                                (1, 2, 2), (3, 0, 1), (3, 1, 0)]:
            self.assertEqual(filled_store(ill, full, part).space(), 3)

    def test_fewer(self):
        for ill, full, part, space in [(0, 5, 0, 0), (0, 4, 1, 2), (0, 4, 2, 1), (1, 4, 0, 0), (1, 3, 1, 2),
                                       (1, 3, 2, 1), (2, 3, 0, 0), (2, 2, 2, 1), (3, 1, 1, 2), (3, 5, 0, 0)]:
            self.assertEqual(filled_store(ill, full, part).space(), space)

    def test_one_page_a_block(self):
        store = Store(Chip(5, 1), Terms(5, 1, 5, 1, 1), Rule())
        told = []
        for block in range(5):
            told.append(store.space())
            store.lay(0, 1)
        self.assertEqual(told + [store.space()], [1, 1, 1, 1, 0, 0])

    def test_failed_blocks_are_not_free(self):
        # Only a sure store makes its reserve less by them.
        for kind, space in [(Store, 0), (Even, 0), (Sure, 3)]:
            store = noted(small(1, (0, 0, 0, 0, 0), [4], kind), [(block, [None] * 3) for block in range(3)])
            self.assertEqual(store.free(), [3])
            self.assertEqual(store.space(), space)


class Options(unittest.TestCase):
    def mixed(self, ill, part, kind=Store):
        """Block 0 has three live pages, block 1 none, block 2 two, block 4 one; 3 is the part, or clear."""
        store = small(ill, (0, 2, 0, 0, 1), (), kind)
        return noted(store, [(0, [0, 1, 2]), (1, [None] * 3), (2, [3, 4, None]), (4, [None, 5, None]),
                             (3, [6] * part)])

    def test_the_space_holds_all(self):
        store = self.mixed(0, 0)
        every = [(0, 3, 0, 1), (1, 0, 2, 4), (2, 2, 0, 7), (4, 1, 1, 10)]
        self.assertEqual((store.space(), store.full_ones()), (3, every))
        # Block 0 has no dead page.
        self.assertEqual(store.options(), every[1:])

    def test_a_space_that_holds_some(self):
        for part, blocks in [(1, [1, 2, 4]), (2, [1, 4])]:
            store = self.mixed(0, part)
            self.assertEqual(store.space(), 3 - part)
            self.assertEqual([tally[0] for tally in store.full_ones()], blocks)
            self.assertEqual(store.options(), store.full_ones())

    def test_no_space(self):
        for ill, part in [(0, 3), (1, 0)]:
            store = self.mixed(ill, part)
            self.assertEqual(store.space(), 0)
            self.assertEqual(store.full_ones(), [(1, 0, 2, 4)])
            self.assertEqual(store.options(), [(1, 0, 2, 4)])

    def test_a_full_one_of_live_pages_alone_is_no_option(self):
        store = noted(small(), [(0, [0, 1, 2]), (1, [3, 4, 5])])
        self.assertEqual(store.full_ones(), [(0, 3, 0, 1), (1, 3, 0, 4)])
        self.assertEqual(store.options(), [])

    def test_clear_parted_and_failed_blocks_are_no_full_ones(self):
        store = small(0, (0, 1, 0, 0, 0), [1])
        noted(store, [(0, [None, None]), (1, [None] * 3), (3, [None, None, 7])])
        self.assertEqual(store.full_ones(), [(3, 1, 0, 6)])
        self.assertEqual(small().full_ones(), [])
        self.assertEqual(small().options(), [])

    def test_a_failed_full_block_is_never_chosen(self):
        for kind in KINDS:
            store = small(1, (0, 0, 0, 0, 0), [0], kind)
            noted(store, [(0, [None] * 3), (1, [None, None, 7])])
            self.assertEqual(store.options(), [(1, 1, 0, 4)])

    def test_one_page_a_block(self):
        store = Store(Chip(4, 1), Terms(4, 1, 5, 1), Rule())
        store.write(0, 1)
        self.assertEqual((store.full_ones(), store.options()), ([(0, 1, 0, 1)], []))
        store.write(0, 2)
        self.assertEqual(store.full_ones(), [(0, 0, 0, 1), (1, 1, 0, 2)])
        self.assertEqual(store.options(), [(0, 0, 0, 1)])

    def test_what_is_told_is_the_askers_own(self):
        for kind in KINDS:
            store = self.mixed(0, 0, kind)
            for ask in [store.full_ones, store.options]:
                before = ask()
                self.assertIs(before.__class__, list)
                kept = list(before)
                before.clear()
                self.assertEqual(ask(), kept)

    def test_asked_in_the_dark(self):
        store = self.mixed(0, 1)
        told = (store.space(), store.tally(2), store.full_ones(), store.options(), store.choice())
        store.chip.cut_after(0)
        self.assertEqual((store.space(), store.tally(2), store.full_ones(), store.options(), store.choice()), told)


if __name__ == "__main__":
    unittest.main()
