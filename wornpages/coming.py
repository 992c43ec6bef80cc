"""Coming up: the book of a chip is found from what its pages bear, and a store goes on with it."""

from wornpages.book import Book
from wornpages.marks import ROLL, name_of, sheets_of, stamp_of
from wornpages.sure import Sure


def marked_pages(chip):
    """The written pages of a chip as (mark, page), the oldest first."""
    marked = []
    for page in range(chip.blocks * chip.pages):
        stuff = chip.read(page)
        if stuff is not None:
            marked.append((stuff[0], page))
    # Marks are ordered as their stamps are, for no two stamps are alike.
    return sorted(marked)


def sheets_given_up(chip, book):
    """The sheets that the newest roll doesn't name and that were not written since."""
    if ROLL not in book.where:
        return []
    roll = chip.read(book.where[ROLL])
    named = sheets_of(roll[1])
    return [sheet for sheet in book.held() if sheet not in named and chip.read(book.where[sheet])[0] < roll[0]]


def book_of(chip):
    """The book of a chip."""
    book = Book(chip.blocks, chip.pages)
    for mark, page in marked_pages(chip):
        book.start_at(stamp_of(mark))
        book.note(page, name_of(mark))
    # Only the newest roll counts, so nothing is given up before all pages are known.
    for sheet in sheets_given_up(chip, book):
        book.forget(sheet)
    return book


def come_up(chip, terms, rule):
    """A sure store that goes on where the one before it stood."""
    store = Sure(chip, terms, rule)
    store.book = book_of(chip)
    return store
