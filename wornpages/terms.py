"""The terms of a store."""

from wornpages.errors import NoTerms
from wornpages.words import MOST_TOLD, is_shape, is_within

# The words of a refusal leave out what was handed in: Python may refuse to show it.


class Terms:
    """How many sheets a store has and may hold, and what its chip may come to."""

    def __init__(self, blocks, pages, sheets, share, ill=0, spread=1000000):
        if not is_shape(blocks, pages):
            raise NoTerms("terms are for 2 to 16 blocks of 1 to 16 pages")
        if not is_within(sheets, 1, 64):
            raise NoTerms("there are 1 to 64 sheets")
        if not is_within(ill, 0, blocks - 2):
            raise NoTerms("from none to all but two of the blocks may fail")
        if not is_within(spread, 1, MOST_TOLD):
            raise NoTerms("the spread is from 1 to 1000000")
        self.blocks = blocks
        self.pages = pages
        self.sheets = sheets
        self.share = share
        self.ill = ill
        self.spread = spread
        if not is_within(share, 1, self.closed() * pages - 2):
            raise NoTerms("the share is from 1 to two less than the pages of the closed blocks")

    def closed(self):
        """How many blocks are left beside one to move to and those that may fail."""
        return self.blocks - 1 - self.ill
