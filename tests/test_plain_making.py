"""Points 3, 23 and 24: a plain store, its blocks, its spot, and whether it is ready."""

import unittest

from tests.helper import arguments_of, fail_block, refusal_of, state_of, wiped_chip
from wornpages.book import Book
from wornpages.chip import Chip
from wornpages.errors import BlockFailed, NoRoom, NoTerms
from wornpages.plain import Plain
from wornpages.terms import Terms


def blocks_told(store):
    return (store.good(), store.free(), store.part(), store.spot())


class Making(unittest.TestCase):
    def test_arguments(self):
        self.assertEqual(arguments_of(Plain), ["chip", "terms"])
        store = Plain(chip=Chip(3, 2), terms=Terms(3, 2, 5, 2))
        for ask, names in [
            (store.good, []), (store.free, []), (store.part, []), (store.spot, []), (store.reserve, []),
            (store.ready, []), (store.make_ready, []), (store.set_down, ["name", "value"]),
            (store.lay, ["name", "value"]), (store.write, ["sheet", "value"]), (store.give_up, ["sheets"]),
            (store.read, ["sheet"]), (store.held, []),
        ]:
            self.assertEqual(arguments_of(ask), names)

    def test_fields(self):
        chip = Chip(3, 4)
        terms = Terms(3, 4, 5, 2)
        store = Plain(chip, terms)
        self.assertIs(store.chip, chip)
        self.assertIs(store.terms, terms)
        self.assertIs(store.book.__class__, Book)
        self.assertEqual((store.book.blocks, store.book.pages), (3, 4))
        self.assertEqual(store.book.tell(), Book(3, 4).tell())
        self.assertEqual(store.held(), [])

    def test_other_blocks_or_pages(self):
        for blocks in range(2, 8):
            for pages in range(3, 8):
                chip = Chip(5, 5)
                before = state_of(chip)
                refusal = refusal_of(Plain, chip, Terms(blocks, pages, 5, 1))
                kind = None.__class__ if (blocks, pages) == (5, 5) else NoTerms
                self.assertIs(refusal.__class__, kind)
                self.assertEqual(state_of(chip), before)

    def test_as_many_pages_in_all_but_other_blocks(self):
        self.assertIs(refusal_of(Plain, Chip(3, 4), Terms(4, 3, 5, 1)).__class__, NoTerms)
        self.assertIs(refusal_of(Plain, Chip(2, 6), Terms(6, 2, 5, 1)).__class__, NoTerms)

    def test_in_the_dark(self):
        chip = Chip(3, 4)
        chip.cut_after(0)
        for blocks, pages in [(4, 4), (3, 5), (4, 3), (2, 4), (3, 3)]:
            self.assertIs(refusal_of(Plain, chip, Terms(blocks, pages, 5, 1)).__class__, NoTerms)
        store = Plain(chip, Terms(3, 4, 5, 1))
        self.assertEqual(store.book.tell(), Book(3, 4).tell())
        self.assertEqual(blocks_told(store), ([0, 1, 2], [0, 1, 2], None, 0))
        self.assertIs(store.ready(), True)
        self.assertEqual(chip.deeds(), [])
        chip.power_on()
        self.assertEqual(store.write(4, 7), 0)

    def test_making_is_no_deed(self):
        chip = Chip(3, 4)
        chip.cut_after(1)
        Plain(chip, Terms(3, 4, 5, 1))
        self.assertEqual(state_of(chip), (False, [None] * 12, [0] * 3, [False] * 3, []))

    def test_two_stores_have_nothing_in_common_but_what_they_are_made_of(self):
        terms = Terms(3, 4, 5, 2)
        one = Plain(Chip(3, 4), terms)
        other = Plain(Chip(3, 4), terms)
        one.write(1, 1)
        self.assertEqual((other.held(), other.spot(), other.book.tell()), ([], 0, Book(3, 4).tell()))
        self.assertEqual((terms.blocks, terms.pages, terms.sheets, terms.share), (3, 4, 5, 2))


class Blocks(unittest.TestCase):
    def worn_store(self, wipes, failed=()):
        """A store with three pages a block, on a chip whose blocks were wiped so often, or have failed, before."""
        return Plain(wiped_chip(3, wipes, failed), Terms(len(wipes), 3, 64, 1))

    def test_a_new_store(self):
        for blocks in range(2, 17):
            every = list(range(blocks))
            self.assertEqual(blocks_told(self.worn_store([0] * blocks)), (every, every, None, 0))

    def test_the_order_of_the_free_blocks(self):
        for wipes, free in [
            ([1, 0], [1, 0]), ([0, 1], [0, 1]), ([2, 1, 0], [2, 1, 0]), ([1, 0, 1, 0], [1, 3, 0, 2]),
            ([3, 3, 3], [0, 1, 2]), ([5, 0, 7, 2, 2, 0], [1, 5, 3, 4, 0, 2]), ([9, 10, 9], [0, 2, 1]),
        ]:
            store = self.worn_store(wipes)
            self.assertEqual(blocks_told(store), (list(range(len(wipes))), free, None, free[0] * 3))

    def test_failed_blocks(self):
        for wipes, failed, good, free in [
            ([0, 0, 0], [0], [1, 2], [1, 2]),
            ([0, 0, 0], [2], [0, 1], [0, 1]),
            ([1, 0, 2, 0], [1], [0, 2, 3], [3, 0, 2]),
            ([1, 0, 2, 0], [3, 1], [0, 2], [0, 2]),
            ([2, 0, 1], [1], [0, 2], [2, 0]),
        ]:
            store = self.worn_store(wipes, failed)
            self.assertEqual(blocks_told(store), (good, free, None, free[0] * 3))

    def test_all_blocks_failed(self):
        store = self.worn_store([0, 1], [0, 1])
        self.assertEqual(blocks_told(store), ([], [], None, None))
        self.assertIs(store.ready(), False)

    def test_one_block_is_filled_after_another(self):
        store = self.worn_store([1, 0, 2, 0])
        told = []
        for page in [3, 4, 5, 9, 10, 11, 0, 1, 2, 6, 7, 8]:
            self.assertEqual(store.spot(), page)
            told.append((store.free(), store.part()))
            self.assertEqual(store.write(0, 1), page)
        self.assertEqual(told, [
            ([1, 3, 0, 2], None), ([3, 0, 2], 1), ([3, 0, 2], 1),
            ([3, 0, 2], None), ([0, 2], 3), ([0, 2], 3),
            ([0, 2], None), ([2], 0), ([2], 0),
            ([2], None), ([], 2), ([], 2),
        ])
        self.assertEqual(blocks_told(store), ([0, 1, 2, 3], [], None, None))

    def test_blocks_of_one_page_are_never_the_part(self):
        store = Plain(Chip(4, 1), Terms(4, 1, 2, 1))
        for block in range(4):
            self.assertEqual(blocks_told(store), ([0, 1, 2, 3], list(range(block, 4)), None, block))
            store.write(0, 1)
        self.assertEqual(blocks_told(store), ([0, 1, 2, 3], [], None, None))

    def test_a_part_that_fails_is_the_part_no_more(self):
        store = Plain(Chip(3, 3, 9, [(0, 2)]), Terms(3, 3, 5, 2))
        store.write(0, 1)
        store.write(0, 2)
        self.assertEqual(blocks_told(store), ([0, 1, 2], [1, 2], 0, 2))
        self.assertIs(refusal_of(store.write, 0, 3).__class__, BlockFailed)
        self.assertEqual(blocks_told(store), ([1, 2], [1, 2], None, 3))

    def test_blocks_that_fail_while_the_store_is_there(self):
        chip = Chip(3, 3, 9, [(0, 0), (2, 0)])
        store = Plain(chip, Terms(3, 3, 5, 2))
        fail_block(chip, 0)
        self.assertEqual(blocks_told(store), ([1, 2], [1, 2], None, 3))
        fail_block(chip, 2)
        self.assertEqual(blocks_told(store), ([1], [1], None, 3))

    def test_told_in_the_dark(self):
        store = self.worn_store([1, 0, 2], [2])
        store.write(0, 1)
        store.chip.cut_after(0)
        self.assertEqual(blocks_told(store), ([0, 1], [0], 1, 4))

    def test_another_book(self):
        store = Plain(Chip(3, 3), Terms(3, 3, 5, 2))
        book = Book(3, 3)
        for page, name in [(6, 4), (7, 4), (3, 1), (4, 1), (5, 1)]:
            book.note(page, name)
        store.book = book
        self.assertEqual(blocks_told(store), ([0, 1, 2], [0], 2, 8))
        self.assertEqual(store.held(), [1, 4])

    def test_lists_are_the_askers_own(self):
        store = self.worn_store([1, 0, 2])
        for ask in [store.good, store.free]:
            before = ask()
            told = ask()
            self.assertIs(told.__class__, list)
            told.clear()
            self.assertEqual(ask(), before)
        free = store.free()
        store.write(0, 1)
        self.assertEqual(free, [1, 0, 2])


class Ready(unittest.TestCase):
    def test_the_reserve_is_none(self):
        for terms in [Terms(3, 3, 5, 1), Terms(3, 3, 5, 1, 1), Terms(6, 3, 5, 1, 4)]:
            store = Plain(Chip(terms.blocks, 3), terms)
            self.assertEqual(store.reserve(), 0)
            store.write(0, 1)
            self.assertEqual(store.reserve(), 0)
            self.assertIs(store.reserve().__class__, int)

    def test_until_the_last_page(self):
        store = Plain(Chip(2, 3), Terms(2, 3, 5, 1))
        for page in range(6):
            self.assertIs(store.ready(), True)
            self.assertIsNone(store.make_ready())
            self.assertEqual(store.write(0, page), page)
        self.assertIs(store.ready(), False)
        before = (state_of(store.chip), store.book.tell())
        self.assertIs(refusal_of(store.make_ready).__class__, NoRoom)
        self.assertEqual((state_of(store.chip), store.book.tell()), before)

    def test_blocks_of_one_page(self):
        store = Plain(Chip(4, 1), Terms(4, 1, 2, 1))
        for page in range(4):
            self.assertIs(store.ready(), True)
            store.write(0, 1)
        self.assertIs(store.ready(), False)

    def test_where_the_last_good_block_fails(self):
        store = Plain(Chip(2, 3, 9, [(0, 0), (1, 1)]), Terms(2, 3, 5, 1))
        self.assertIs(refusal_of(store.write, 0, 1).__class__, BlockFailed)
        self.assertIs(store.ready(), True)
        self.assertEqual(store.write(0, 1), 3)
        self.assertIs(store.ready(), True)
        self.assertIs(refusal_of(store.write, 0, 2).__class__, BlockFailed)
        self.assertIs(store.ready(), False)
        self.assertIs(refusal_of(store.make_ready).__class__, NoRoom)

    def test_ready_in_the_dark(self):
        store = Plain(Chip(2, 3), Terms(2, 3, 5, 1))
        store.chip.cut_after(5)
        for page in range(5):
            store.write(0, 1)
        self.assertIs(store.chip.is_dark(), True)
        self.assertIs(store.ready(), True)
        self.assertIsNone(store.make_ready())


if __name__ == "__main__":
    unittest.main()
