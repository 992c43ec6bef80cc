"""A plain store: it keeps values by their sheets on the pages of a chip, and never clears a block."""

from wornpages.book import Book
from wornpages.errors import Full, NoRoom, NoSheet, NoTerms, NoValue
from wornpages.marks import ROLL, bits_of
from wornpages.words import is_value, is_within

# Stores that do more stand under this one and put some of its methods otherwise.
# So a store asks itself by its methods alone, also where the book would tell the same.


class Plain:
    """Sheets that are written, read and given up, as long as there are clear pages."""

    def __init__(self, chip, terms):
        if terms.blocks != chip.blocks or terms.pages != chip.pages:
            raise NoTerms("the terms tell other blocks or pages than the chip has")
        self.chip = chip
        self.terms = terms
        self.book = Book(chip.blocks, chip.pages)

    def good(self):
        """The blocks that have not failed, rising."""
        return [block for block in range(self.terms.blocks) if not self.chip.failed(block)]

    def free(self):
        """The good blocks that are clear: the least often cleared first, of equals the least block first."""
        clear = [block for block in self.good() if self.book.filled[block] == 0]
        return sorted(clear, key=lambda block: (self.chip.cleared(block), block))

    def part(self):
        """The good block that is written, but not to its end; None where there is none."""
        for block in self.good():
            if 0 < self.book.filled[block] < self.terms.pages:
                return block
        return None

    def spot(self):
        """The page that is put next; None where there is none."""
        part = self.part()
        if part is not None:
            return part * self.terms.pages + self.book.filled[part]
        free = self.free()
        if free == []:
            return None
        return free[0] * self.terms.pages

    def reserve(self):
        """How many free blocks are not used up."""
        return 0

    def ready(self):
        """Whether a page can be put without using up the reserve."""
        spare = len(self.free()) - self.reserve()
        return spare > 0 or (spare == 0 and self.part() is not None)

    def make_ready(self):
        """See to it that the store is ready; a plain store can only refuse."""
        if not self.ready():
            raise NoRoom("no page can be put")

    def set_down(self, name, value):
        """Put a value under a name on the spot; the page."""
        page = self.spot()
        if page is None:
            raise NoRoom("there is no clear page in a good block")
        self.chip.put(page, (self.book.mark(name), value))
        # The book is told behind the put: it must know nothing of a put that was refused.
        self.book.note(page, name)
        return page

    def lay(self, name, value):
        """Put a value under a name; the page."""
        return self.set_down(name, value)

    def write(self, sheet, value):
        """Keep a value by its sheet; the page."""
        self.check_sheet(sheet)
        if not is_value(value):
            raise NoValue("a value is a whole number from 0 to below 10 ** 30")
        self.check_share(sheet)
        self.make_ready()
        return self.lay(sheet, value)

    def give_up(self, sheets):
        """Hold the sheets of a list no more; how many of them were held."""
        for sheet in sheets:
            self.check_sheet(sheet)
        held = self.held()
        gone = [sheet for sheet in held if sheet in sheets]
        if gone == []:
            return 0
        self.make_ready()
        self.lay(ROLL, bits_of([sheet for sheet in held if sheet not in gone]))
        for sheet in gone:
            self.book.forget(sheet)
        return len(gone)

    def read(self, sheet):
        """The value of a sheet, None where it is not held."""
        self.check_sheet(sheet)
        if sheet not in self.held():
            return None
        return self.chip.read(self.book.where[sheet])[1]

    def held(self):
        """The sheets that are held, rising."""
        return self.book.held()

    def check_sheet(self, sheet):
        if not is_within(sheet, 0, self.terms.sheets - 1):
            raise NoSheet("there is no such sheet")

    def check_share(self, sheet):
        """Refuse a sheet that is not held where no more may be held."""
        held = self.held()
        if sheet not in held and len(held) >= self.terms.share:
            raise Full("as many sheets are held as the share allows")
