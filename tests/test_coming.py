"""Points 70 to 73: the book that is found from a chip's pages, and the store that comes up with it."""

import random
import unittest

from tests.helper import (AskChecks, Usage, arguments_of, book_by_the_words, deeds_of, drawn_chip, drawn_terms,
                          fail_block, laid, reads_of, refusal_of, state_of)
from wornpages.book import Book
from wornpages.chip import Chip
from wornpages.coming import book_of, come_up
from wornpages.errors import Full, NoSheet, NoTerms, PowerGone, WornOut
from wornpages.even import Even
from wornpages.marks import ROLL, bits_of, mark_of, name_of, stamp_of
from wornpages.plain import Plain
from wornpages.rules import Eldest, Fewest, Follow, Order, Rule, Turned, Window, Worth
from wornpages.store import Store
from wornpages.sure import Sure
from wornpages.terms import Terms


class Books(unittest.TestCase):
    def told(self, blocks, pages, rows, where, live, filled, born, stamp):
        chip = laid(blocks, pages, rows)
        before = state_of(chip)
        book = book_of(chip)
        self.assertIs(book.__class__, Book)
        self.assertEqual((book.blocks, book.pages), (blocks, pages))
        self.assertEqual(book.tell(), (where, live, filled, born, stamp))
        self.assertEqual(dict(where), book.where)
        self.assertEqual(state_of(chip), before)

    def test_arguments(self):
        self.assertEqual(arguments_of(book_of), ["chip"])
        self.assertEqual(arguments_of(come_up), ["chip", "terms", "rule"])

    def test_a_clear_chip(self):
        for blocks, pages in [(2, 1), (3, 4), (16, 16)]:
            self.assertEqual(book_of(Chip(blocks, pages)).tell(), Book(blocks, pages).tell())

    def test_a_chip_that_was_wiped(self):
        chip = laid(3, 2, [(0, 1, 5, 7), (1, 2, 5, 8)])
        chip.wipe(0)
        self.assertEqual(book_of(chip).tell(), Book(3, 2).tell())

    def test_sheets_without_a_roll(self):
        self.told(3, 3, [(0, 1, 5, 70), (1, 2, 6, 71), (2, 3, 5, 72)],
                  [(5, 2), (6, 1)], [2, 0, 0], [3, 0, 0], [1, 0, 0], 4)

    def test_the_newest_page_by_its_stamp_not_by_its_place(self):
        self.told(3, 3, [(0, 40, 5, 70), (1, 41, 6, 71), (3, 7, 5, 72), (4, 9, 5, 73), (6, 50, 6, 74)],
                  [(5, 0), (6, 6)], [1, 0, 1], [2, 2, 1], [40, 7, 50], 51)

    def test_sheets_given_up_by_a_newer_roll(self):
        self.told(2, 4, [(0, 1, 0, 9), (1, 2, 1, 9), (2, 3, 2, 9), (3, 4, ROLL, bits_of([1]))],
                  [(1, 1), (ROLL, 3)], [2, 0], [4, 0], [1, 0], 5)

    def test_sheets_newer_than_the_newest_roll(self):
        self.told(2, 4, [(0, 1, 0, 9), (1, 2, ROLL, 0), (2, 3, 2, 9), (3, 4, 0, 9)],
                  [(0, 3), (2, 2), (ROLL, 1)], [3, 0], [4, 0], [1, 0], 5)

    def test_a_roll_that_names_all_and_one_that_names_none(self):
        rows = [(0, 3, 0, 9), (1, 4, 63, 9), (2, 5, 7, 9)]
        self.told(2, 4, rows + [(3, 6, ROLL, 2 ** 64 - 1)],
                  [(0, 0), (7, 2), (63, 1), (ROLL, 3)], [4, 0], [4, 0], [3, 0], 7)
        self.told(2, 4, rows + [(3, 6, ROLL, 0)], [(ROLL, 3)], [1, 0], [4, 0], [3, 0], 7)

    def test_sheets_that_a_roll_names_but_that_have_no_page(self):
        self.told(2, 4, [(0, 1, ROLL, bits_of([0, 4, 63]))], [(ROLL, 0)], [1, 0], [1, 0], [1, 0], 2)

    def test_of_several_rolls_the_newest_alone_counts(self):
        # The older roll lies behind the newer one, and doesn't name sheet 0.
        self.told(3, 2, [(0, 1, 0, 9), (1, 2, 1, 9), (4, 3, ROLL, bits_of([1])), (2, 5, ROLL, bits_of([0]))],
                  [(0, 0), (ROLL, 2)], [1, 1, 0], [2, 1, 1], [1, 5, 3], 6)
        # A sheet that is newer than the older roll, but not than the newer one.
        self.told(3, 2, [(0, 1, ROLL, 0), (1, 2, 1, 9), (2, 3, ROLL, 0), (3, 4, 2, 9)],
                  [(2, 3), (ROLL, 2)], [0, 2, 0], [2, 2, 0], [1, 3, 0], 5)

    def test_an_old_page_of_a_sheet_does_not_come_back(self):
        # The newest page of sheet 5 is older than the roll that leaves it out, and so are all others.
        self.told(3, 2, [(0, 1, 5, 9), (1, 4, 5, 9), (2, 2, 5, 9), (4, 6, ROLL, 0)],
                  [(ROLL, 4)], [0, 0, 1], [2, 1, 1], [1, 2, 6], 7)

    def test_only_the_first_page_is_born(self):
        self.told(3, 4, [(4, 8, 1, 9), (5, 11, 2, 9), (6, 30, 3, 9), (8, 2, 1, 9)],
                  [(1, 4), (2, 5), (3, 6)], [0, 3, 0], [0, 3, 1], [0, 8, 2], 31)

    def test_great_stamps_and_values(self):
        top = 10 ** 39
        self.told(2, 2, [(0, top, 63, 10 ** 30 - 1), (2, top + 1, 0, 0)],
                  [(0, 2), (63, 0)], [1, 1], [1, 1], [top, top + 1], top + 2)

    def test_chips_that_lie_well(self):
        for seed in range(400):
            chip = drawn_chip(random.Random(seed))
            self.assertEqual(book_of(chip).tell(), book_by_the_words(chip))

    def test_failed_blocks_are_read_too(self):
        chip = Chip(3, 2, 9, [(0, 1)])
        chip.put(0, (mark_of(1, 5), 70))
        fail_block(chip, 0)
        self.assertEqual(book_of(chip).tell(), ([(5, 0)], [1, 0, 0], [1, 0, 0], [1, 0, 0], 2))

    def test_in_the_dark(self):
        for chip in [Chip(2, 1), laid(2, 2, [(0, 1, 5, 70)])]:
            chip.cut_after(0)
            self.assertIs(refusal_of(book_of, chip).__class__, PowerGone)

    def test_two_books_of_a_chip_have_nothing_in_common(self):
        chip = laid(2, 2, [(0, 1, 5, 70)])
        one = book_of(chip)
        other = book_of(chip)
        one.note(1, 6)
        self.assertEqual(other.tell(), ([(5, 0)], [1, 0], [1, 0], [1, 0], 2))


class ComingUp(unittest.TestCase):
    def test_the_store(self):
        chip = laid(3, 3, [(0, 1, 5, 70), (1, 2, 6, 71), (2, 3, 5, 72)])
        before = state_of(chip)
        terms = Terms(3, 3, 10, 4)
        rule = Turned(Fewest())
        store = come_up(chip, terms, rule)
        self.assertIs(store.__class__, Sure)
        self.assertIs(store.chip, chip)
        self.assertIs(store.terms, terms)
        self.assertIs(store.rule, rule)
        self.assertEqual((store.papers, store.changes()), ([], []))
        self.assertEqual(store.book.tell(), book_of(chip).tell())
        self.assertEqual(state_of(chip), before)
        self.assertEqual((store.held(), reads_of(store)[5:7]), ([5, 6], [72, 71]))

    def test_it_is_used_on(self):
        chip = laid(3, 3, [(0, 1, 5, 70), (1, 2, ROLL, 1 << 5), (3, 8, 6, 71)])
        store = come_up(chip, Terms(3, 3, 10, 4), Fewest())
        # The part is the first block that is written in part.
        self.assertEqual(store.write(6, 99), 2)
        self.assertEqual(chip.read(2), (mark_of(9, 6), 99))
        self.assertEqual(store.give_up([5]), 1)
        self.assertEqual(chip.read(4), (mark_of(10, ROLL), 1 << 6))
        self.assertEqual(store.book.tell(), book_of(chip).tell())

    def test_a_clear_chip(self):
        store = come_up(Chip(3, 3), Terms(3, 3, 10, 4), Fewest())
        self.assertEqual((store.held(), reads_of(store)), ([], [None] * 10))
        self.assertEqual(store.write(0, 1), 0)

    def test_no_terms_ahead_of_power_gone(self):
        for dark in [False, True]:
            chip = laid(4, 3, [(0, 1, 5, 70)])
            if dark:
                chip.cut_after(0)
            before = state_of(chip)
            for blocks, pages in [(3, 3), (5, 3), (4, 2), (4, 4), (3, 4), (2, 6)]:
                self.assertIs(refusal_of(come_up, chip, Terms(blocks, pages, 9, 1), Rule()).__class__, NoTerms)
            if dark:
                self.assertIs(refusal_of(come_up, chip, Terms(4, 3, 9, 1), Rule()).__class__, PowerGone)
            self.assertEqual(state_of(chip), before)

    def test_any_terms_of_its_blocks_and_pages(self):
        for seed in range(100):
            draw = random.Random(seed)
            chip = drawn_chip(draw)
            ill = draw.randint(0, chip.blocks - 2)
            most = (chip.blocks - 1 - ill) * chip.pages - 2
            if most < 1:
                continue
            sheets = draw.choice([1, 3, 6, 64])
            store = come_up(chip, Terms(chip.blocks, chip.pages, sheets, draw.randint(1, most), ill), Rule())
            where = dict(book_by_the_words(chip)[0])
            self.assertEqual(store.held(), [name for name in sorted(where) if name != ROLL])
            for sheet in range(sheets):
                self.assertEqual(store.read(sheet), chip.read(where[sheet])[1] if sheet in where else None)
            # What is held beyond the terms is told, but it is no sheet of the store.
            self.assertIs(refusal_of(store.read, sheets).__class__, NoSheet)

    def test_on_a_worn_chip(self):
        chip = Chip(3, 2, 9, [(2, 0), (1, 0)])
        chip.put(0, (mark_of(1, 0), 70))
        fail_block(chip, 1)
        fail_block(chip, 2)
        store = come_up(chip, Terms(3, 2, 5, 2), Rule())
        self.assertEqual((store.worn(), store.failures(), store.read(0)), (True, 2, 70))
        self.assertIs(refusal_of(store.write, 0, 1).__class__, WornOut)


RULES = [Rule, Fewest, Eldest, Worth, lambda: Window(2), lambda: Turned(Worth()),
         lambda: Order([Fewest(), Turned(Eldest())])]


class Found(AskChecks, unittest.TestCase):
    refusals = [None, Full, PowerGone, WornOut]

    def drawn_usage(self, kind, seed, rule, failing):
        draw = random.Random(seed)
        terms = drawn_terms(draw)
        ills = [(block, draw.randint(0, 40)) for block in draw.sample(range(terms.blocks), failing)]
        return Usage(kind(Chip(terms.blocks, terms.pages, 1000, ills), terms, rule), draw)

    def test_whatever_stores_do_the_chip_lies_well(self):
        for seed in range(40):
            usage = self.drawn_usage(Sure, seed, RULES[seed % len(RULES)](), seed % 3)
            for turn in range(60):
                self.checked(usage, 0.2)
                self.check_lies_well(usage.chip)

    def check_lies_well(self, chip):
        stamps = []
        for block in range(chip.blocks):
            borne = [chip.read(block * chip.pages + page) for page in range(chip.pages)]
            written = [stuff for stuff in borne if stuff is not None]
            self.assertEqual(borne, written + [None] * (chip.pages - len(written)))
            own = [stamp_of(mark) for mark, value in written]
            self.assertEqual(own, sorted(own))
            stamps += own
            for mark, value in written:
                self.assertLessEqual(name_of(mark), ROLL)
        self.assertEqual(len(stamps), len(set(stamps)))
        self.assertGreater(min(stamps, default=1), 0)

    def test_by_each_class_of_stores(self):
        for kind in [Store, Even, Sure]:
            for seed in range(10):
                usage = self.drawn_usage(kind, seed, Fewest(), 0)
                for turn in range(60):
                    self.checked(usage, 0.2)

    def test_of_a_plain_store(self):
        chip = Chip(3, 4)
        store = Plain(chip, Terms(3, 4, 20, 6))
        draw = random.Random(8)
        while store.ready():
            if draw.random() < 0.3:
                store.give_up([draw.randrange(5), draw.randrange(5)])
            else:
                store.write(draw.randrange(5), draw.randrange(100))
            self.assertEqual(book_of(chip).tell(), store.book.tell())

    def test_what_comes_up_goes_on_deed_by_deed(self):
        for seed in range(60):
            rule = RULES[seed % len(RULES)]
            in_hand = self.drawn_usage(Sure, seed, rule(), seed % 2)
            anew = self.drawn_usage(Sure, seed, rule(), seed % 2)
            for turn in range(60):
                told = self.checked(in_hand, 0.2)
                again = self.checked(anew, 0.2)
                self.assertEqual((again.deeds, again.refusal, again.answer, again.papers),
                                 (told.deeds, told.refusal, told.answer, told.papers))
                anew.use(come_up(anew.chip, anew.store.terms, rule()))
            self.assertEqual(anew.chip.deeds(), in_hand.chip.deeds())

    def test_a_rule_that_follows_is_handed_on(self):
        rule = Follow([1, 0, 1, 0, 2] * 40)
        usage = self.drawn_usage(Sure, 3, Follow([1, 0, 1, 0, 2] * 40), 0)
        anew = self.drawn_usage(Sure, 3, rule, 0)
        for turn in range(60):
            usage.ask()
            anew.ask()
            anew.use(come_up(anew.chip, anew.store.terms, rule))
        self.assertEqual(anew.chip.deeds(), usage.chip.deeds())

    def test_come_up_behind_each_deed_of_a_making(self):
        for deeds in range(12):
            terms = Terms(3, 3, 5, 4, 0, 1)
            chip = Chip(3, 3)
            store = Sure(chip, terms, Fewest())
            for sheet in [0, 1, 2] + [3] * 7:
                store.write(sheet, 50 + sheet)
            due = reads_of(store)
            chip.cut_after(deeds)
            refusal = refusal_of(store.write, 3, 60)
            chip.power_on()
            anew = come_up(chip, terms, Fewest())
            self.assertEqual(anew.book.tell(), store.book.tell())
            due[3] = 53 if refusal else 60
            self.assertEqual(reads_of(anew), due)
            self.assertEqual(deeds_of(chip, anew.write, 3, 61)[-1][0], "put")
            self.assertEqual(anew.read(3), 61)


if __name__ == "__main__":
    unittest.main()
