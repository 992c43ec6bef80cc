"""The looker: what is wrong in a list that tells where the sheets of a chip lie."""

from wornpages.coming import book_of
from wornpages.marks import name_of


def faults(chip, told):
    """What is wrong in a list of (sheet, page), as a list of (sheet, page, sort)."""
    # The book is found ahead of all else, so that a dark chip is refused whatever the list.
    book = book_of(chip)
    held = book.held()
    seen = {}
    found = []
    for sheet, page in told:
        sort = "twice" if sheet in seen else sort_of_fault(chip, book, held, sheet, page)
        seen[sheet] = True
        if sort is not None:
            found.append((sheet, page, sort))
    return found + [(sheet, book.where[sheet], "missing") for sheet in held if sheet not in seen]


def sort_of_fault(chip, book, held, sheet, page):
    """What is wrong in telling that a sheet lies on a page; None where that is right."""
    stuff = chip.read(page) if 0 <= page < chip.blocks * chip.pages else None
    if stuff is None:
        return "nothing"
    if name_of(stuff[0]) != sheet:
        return "other"
    if sheet not in held:
        return "gone"
    if book.where[sheet] != page:
        return "old"
    return None
