"""Points 21 and 22: what a book is told, and what it tells."""

import random
import unittest

from tests.helper import arguments_of
from wornpages.book import Book
from wornpages.marks import ROLL, mark_of

NEW = ([], [0, 0, 0], [0, 0, 0], [0, 0, 0], 1)


class ScannedBook:
    """The same as a book, but kept page by page and told by looking at every page."""

    def __init__(self, blocks, pages):
        self.pages = pages
        self.written = [[] for block in range(blocks)]
        self.gone = set()
        self.stamp = 1

    def note(self, block, name):
        self.written[block].append((self.stamp, name))
        self.gone.discard(name)
        self.stamp += 1

    def newest(self):
        """Each name's newest page, as (stamp, page)."""
        newest = {}
        for block, rows in enumerate(self.written):
            for place, (stamp, name) in enumerate(rows):
                newest[name] = max(newest.get(name, (0, 0)), (stamp, block * self.pages + place))
        return {name: told for name, told in newest.items() if name not in self.gone}

    def live_of(self, block):
        pages = [(page, name) for name, (stamp, page) in self.newest().items()]
        return sorted(pair for pair in pages if pair[0] // self.pages == block)

    def tell(self):
        where = sorted((name, page) for name, (stamp, page) in self.newest().items())
        live = [len(self.live_of(block)) for block in range(len(self.written))]
        born = [rows[0][0] if rows else 0 for rows in self.written]
        return (where, live, [len(rows) for rows in self.written], born, self.stamp)


class Interface(unittest.TestCase):
    def test_arguments(self):
        self.assertEqual(arguments_of(Book), ["blocks", "pages"])
        book = Book(2, 2)
        for ask, names in [
            (book.mark, ["name"]), (book.note, ["page", "name"]), (book.forget, ["name"]),
            (book.emptied, ["block"]), (book.start_at, ["stamp"]), (book.live_pages, ["block"]),
            (book.held, []), (book.tell, []),
        ]:
            self.assertEqual(arguments_of(ask), names)

    def test_answers_of_what_is_told(self):
        book = Book(2, 2)
        for ask, values in [(book.note, (0, 5)), (book.forget, (5,)), (book.forget, (6,)),
                            (book.emptied, (0,)), (book.start_at, (7,))]:
            self.assertIsNone(ask(*values))

    def test_fields(self):
        book = Book(3, 2)
        self.assertEqual((book.blocks, book.pages, book.stamp, book.where), (3, 2, 1, {}))
        self.assertEqual((book.live, book.filled, book.born), ([0] * 3, [0] * 3, [0] * 3))
        for page, name in [(2, 5), (3, ROLL), (4, 5), (0, 1)]:
            book.note(page, name)
        self.assertEqual((book.blocks, book.pages, book.stamp), (3, 2, 5))
        self.assertEqual(book.where, {5: 4, ROLL: 3, 1: 0})
        self.assertEqual((book.live, book.filled, book.born), ([1, 1, 1], [1, 2, 1], [4, 1, 3]))
        self.assertIs(book.where.__class__, dict)
        self.assertEqual([field.__class__ for field in (book.live, book.filled, book.born)], [list] * 3)


class Told(unittest.TestCase):
    def test_a_new_book(self):
        book = Book(3, 2)
        self.assertEqual(book.tell(), NEW)
        self.assertEqual(book.held(), [])
        self.assertEqual([book.live_pages(block) for block in range(3)], [[], [], []])
        self.assertEqual(book.mark(0), 128)

    def test_every_shape(self):
        for blocks in range(2, 17):
            for pages in range(1, 17):
                book = Book(blocks, pages)
                last = blocks * pages - pages
                book.note(last, 9)
                rest = [0] * (blocks - 1)
                self.assertEqual(book.tell(), ([(9, last)], rest + [1], rest + [1], rest + [1], 2))

    def test_pages_in_several_blocks(self):
        book = Book(3, 3)
        for page, name in [(3, 7), (4, ROLL), (0, 2), (5, 0), (6, 63)]:
            book.note(page, name)
        self.assertEqual(book.tell(), (
            [(0, 5), (2, 0), (7, 3), (63, 6), (64, 4)], [1, 3, 1], [1, 3, 1], [3, 1, 5], 6,
        ))

    def test_the_page_that_was_live_before_is_dead(self):
        book = Book(2, 3)
        for page, name in [(0, 7), (1, 8)]:
            book.note(page, name)
        book.note(2, 7)
        self.assertEqual(book.tell(), ([(7, 2), (8, 1)], [2, 0], [3, 0], [1, 0], 4))
        book.note(3, 7)
        self.assertEqual(book.tell(), ([(7, 3), (8, 1)], [1, 1], [3, 1], [1, 4], 5))

    def test_a_roll_that_was_live_before_is_dead(self):
        book = Book(2, 3)
        book.note(0, ROLL)
        book.note(3, ROLL)
        self.assertEqual(book.tell(), ([(64, 3)], [0, 1], [1, 1], [1, 2], 3))

    def test_a_name_held_no_more(self):
        book = Book(2, 3)
        for page, name in [(0, 7), (1, 8), (2, ROLL)]:
            book.note(page, name)
        book.forget(7)
        self.assertEqual(book.tell(), ([(8, 1), (64, 2)], [2, 0], [3, 0], [1, 0], 4))
        book.forget(ROLL)
        self.assertEqual(book.tell(), ([(8, 1)], [1, 0], [3, 0], [1, 0], 4))

    def test_a_name_that_has_no_live_page_already(self):
        book = Book(2, 3)
        book.forget(7)
        self.assertEqual(book.tell(), ([], [0, 0], [0, 0], [0, 0], 1))
        book.note(0, 7)
        book.note(1, 8)
        book.forget(7)
        before = book.tell()
        for name in [7, 6, ROLL, 0]:
            book.forget(name)
            self.assertEqual(book.tell(), before)

    def test_a_name_held_again(self):
        book = Book(2, 3)
        book.note(0, 7)
        book.forget(7)
        book.note(1, 7)
        self.assertEqual(book.tell(), ([(7, 1)], [1, 0], [2, 0], [1, 0], 3))

    def test_a_block_emptied(self):
        book = Book(2, 2)
        for page, name in [(0, 7), (1, 8), (2, 7), (3, 8)]:
            book.note(page, name)
        book.emptied(0)
        self.assertEqual(book.tell(), ([(7, 2), (8, 3)], [0, 2], [0, 2], [0, 3], 5))
        book.note(0, 9)
        self.assertEqual(book.tell(), ([(7, 2), (8, 3), (9, 0)], [1, 2], [1, 2], [5, 3], 6))

    def test_a_block_emptied_that_is_written_in_part_or_clear(self):
        book = Book(3, 2)
        book.note(2, 7)
        book.forget(7)
        book.emptied(1)
        book.emptied(2)
        self.assertEqual(book.tell(), ([], [0, 0, 0], [0, 0, 0], [0, 0, 0], 2))

    def test_the_next_stamp_told_outright(self):
        for stamp in [2, 3, 50, 10 ** 39]:
            book = Book(2, 2)
            book.note(0, 7)
            before = book.tell()
            book.start_at(stamp)
            self.assertEqual(book.tell(), before[:4] + (stamp,))
            self.assertEqual(book.mark(7), mark_of(stamp, 7))
            book.note(2, 7)
            self.assertEqual(book.tell(), ([(7, 2)], [0, 1], [1, 1], [1, stamp], stamp + 1))

    def test_the_next_stamp_told_to_a_new_book(self):
        for stamp in [1, 2, 10 ** 39]:
            book = Book(2, 2)
            book.start_at(stamp)
            self.assertEqual((book.stamp, book.mark(3)), (stamp, stamp * 128 + 3))


class Tells(unittest.TestCase):
    def filled_book(self):
        book = Book(3, 3)
        for page, name in [(6, 5), (7, 4), (8, 63), (3, ROLL), (4, 0), (5, 3), (0, 4)]:
            book.note(page, name)
        return book

    def test_the_mark_due(self):
        book = Book(2, 2)
        for stamp, page in [(1, 0), (2, 1), (3, 2)]:
            for name in range(65):
                self.assertEqual(book.mark(name), stamp * 128 + name)
            book.note(page, 5)
        self.assertEqual(book.mark(ROLL), 4 * 128 + 64)

    def test_asking_changes_nothing(self):
        book = self.filled_book()
        before = book.tell()
        for name in range(65):
            book.mark(name)
        for block in range(3):
            book.live_pages(block)
        book.held()
        self.assertEqual(book.tell(), before)

    def test_live_pages(self):
        book = self.filled_book()
        self.assertEqual(book.live_pages(0), [(0, 4)])
        self.assertEqual(book.live_pages(1), [(3, 64), (4, 0), (5, 3)])
        self.assertEqual(book.live_pages(2), [(6, 5), (8, 63)])
        book.forget(0)
        self.assertEqual(book.live_pages(1), [(3, 64), (5, 3)])

    def test_held_without_roll(self):
        book = self.filled_book()
        self.assertEqual(book.held(), [0, 3, 4, 5, 63])
        book.forget(4)
        self.assertEqual(book.held(), [0, 3, 5, 63])
        book = Book(2, 2)
        book.note(0, ROLL)
        self.assertEqual(book.held(), [])

    def test_kinds(self):
        for book in [Book(3, 3), self.filled_book()]:
            told = book.tell()
            self.assertIs(told.__class__, tuple)
            self.assertEqual([part.__class__ for part in told], [list, list, list, list, int])
            self.assertEqual([len(part) for part in told[1:4]], [3, 3, 3])
            rows = told[0] + [pair for block in range(3) for pair in book.live_pages(block)]
            self.assertTrue(all(row.__class__ is tuple and len(row) == 2 for row in rows))
            self.assertIs(book.held().__class__, list)
            self.assertIs(book.live_pages(1).__class__, list)

    def test_changes_to_what_was_told_change_nothing(self):
        book = self.filled_book()
        asks = [book.held, lambda: book.live_pages(1)] + [lambda place=place: book.tell()[place] for place in range(4)]
        before = [ask() for ask in asks]
        for ask in asks:
            told = ask()
            told[0] = 99
            told.append(99)
            self.assertEqual([again() for again in asks], before)
            told.clear()
            self.assertEqual([again() for again in asks], before)

    def test_what_was_told_before_stays_as_it_was(self):
        book = Book(3, 2)
        told = book.tell()
        held = book.held()
        live = book.live_pages(0)
        book.note(0, 7)
        book.note(2, 8)
        self.assertEqual((told, held, live), (NEW, [], []))

    def test_two_books_have_nothing_in_common(self):
        one = Book(3, 2)
        other = Book(3, 2)
        one.note(0, 7)
        one.start_at(90)
        self.assertEqual(other.tell(), NEW)
        other.note(4, 1)
        self.assertEqual(one.tell(), ([(7, 0)], [1, 0, 0], [1, 0, 0], [1, 0, 0], 90))


class LikeTheScannedBook(unittest.TestCase):
    def step(self, draw, book, scanned, blocks, pages):
        block = draw.randrange(blocks)
        name = draw.choice([0, 1, 2, 63, ROLL])
        deed = draw.randrange(8)
        if deed == 0:
            book.forget(name)
            scanned.gone.add(name)
        elif deed == 1 and not scanned.live_of(block):
            book.emptied(block)
            scanned.written[block] = []
        elif deed == 2:
            stamp = scanned.stamp + draw.randrange(5)
            book.start_at(stamp)
            scanned.stamp = stamp
        elif len(scanned.written[block]) < pages:
            book.note(block * pages + len(scanned.written[block]), name)
            scanned.note(block, name)

    def test_rows_of_all_that_can_be_told(self):
        draw = random.Random(20)
        for blocks, pages in [(2, 1), (2, 4), (3, 2), (5, 3), (16, 1), (16, 16)]:
            book = Book(blocks, pages)
            scanned = ScannedBook(blocks, pages)
            for times in range(400):
                self.step(draw, book, scanned, blocks, pages)
                told = scanned.tell()
                self.assertEqual(book.tell(), told)
                self.assertEqual(book.held(), [name for name, page in told[0] if name != ROLL])
                for block in range(blocks):
                    self.assertEqual(book.live_pages(block), scanned.live_of(block))
                self.assertEqual((book.where, book.live, book.filled, book.born, book.stamp),
                                 (dict(told[0]),) + told[1:])


if __name__ == "__main__":
    unittest.main()
