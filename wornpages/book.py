"""A book: on which page each name lies now, and how far each block is written."""

from wornpages.marks import ROLL, mark_of


class Book:
    """What was told of the pages of a chip, which the book itself doesn't know."""

    def __init__(self, blocks, pages):
        self.blocks = blocks
        self.pages = pages
        self.stamp = 1
        self.where = {}
        self.live = [0] * blocks
        self.filled = [0] * blocks
        self.born = [0] * blocks

    def mark(self, name):
        """The mark that is due to a page that is put next with a name."""
        return mark_of(self.stamp, name)

    def note(self, page, name):
        """A page, the first clear one of its block, was put with a name."""
        block = page // self.pages
        self.forget(name)
        self.where[name] = page
        self.live[block] += 1
        if self.filled[block] == 0:
            self.born[block] = self.stamp
        self.filled[block] += 1
        self.stamp += 1

    def forget(self, name):
        """A name is held no more."""
        if name in self.where:
            page = self.where.pop(name)
            self.live[page // self.pages] -= 1

    def emptied(self, block):
        """A block in which no page was live is clear now."""
        self.filled[block] = 0
        self.born[block] = 0

    def start_at(self, stamp):
        """The next stamp is this one."""
        self.stamp = stamp

    def live_pages(self, block):
        """The live pages of a block, rising, as (page, name)."""
        return sorted([(page, name) for name, page in self.where.items() if page // self.pages == block])

    def held(self):
        """The sheets that have a live page, rising."""
        return sorted([name for name in self.where if name != ROLL])

    def tell(self):
        """All that the book knows: pairs (name, live page), live, filled and born by blocks, the next stamp."""
        return (sorted(self.where.items()), list(self.live), list(self.filled), list(self.born), self.stamp)
