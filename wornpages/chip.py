"""A chip: blocks of pages that are put once, are wiped together, and wear out."""

from wornpages.errors import BlockFailed, NoChip, NoPlace, NotClear, NoValue, PowerGone
from wornpages.words import MOST_TOLD, is_shape, is_within

# The words of a refusal leave out what was handed in: Python may refuse to show it.


def limits_of(ills, blocks):
    """How many deeds each ill block does well, by its number."""
    limits = {}
    for block, deeds in ills:
        if not is_within(block, 0, blocks - 1):
            raise NoChip("an ill is told of a block that is not there")
        if block in limits:
            raise NoChip("two ills are told of one block")
        if not is_within(deeds, 0, MOST_TOLD):
            raise NoChip("an ill block does 0 to 1000000 deeds well")
        limits[block] = deeds
    return limits


class Chip:
    """Blocks of pages, with power that can be cut and a list of all that was done."""

    def __init__(self, blocks, pages, most=1000000, ills=None):
        if not is_shape(blocks, pages):
            raise NoChip("a chip has 2 to 16 blocks of 1 to 16 pages")
        if not is_within(most, 0, MOST_TOLD):
            raise NoChip("a block can be cleared 0 to 1000000 times")
        self.blocks = blocks
        self.pages = pages
        self.most = most
        self.limits = limits_of([] if ills is None else ills, blocks)
        self.borne = [None] * (blocks * pages)
        self.clearings = [0] * blocks
        self.deed_counts = [0] * blocks
        self.broken = [False] * blocks
        # None stands for power without end.
        self.deeds_left = None
        self.record = []

    def put(self, page, stuff):
        """Write stuff on a clear page."""
        self.check_page(page)
        block = page // self.pages
        self.check_deed(block)
        if self.borne[page] is not None:
            raise NotClear(page)
        self.do_deed("put", page, block, self.is_spent(block))
        self.borne[page] = stuff

    def wipe(self, block):
        """Clear all pages of a block."""
        self.check_block(block)
        self.check_deed(block)
        fails = self.is_spent(block) or self.clearings[block] >= self.most
        self.do_deed("wipe", block, block, fails)
        first = block * self.pages
        for page in range(first, first + self.pages):
            self.borne[page] = None
        self.clearings[block] += 1

    def read(self, page):
        """What a page bears, None where it is clear."""
        self.check_page(page)
        self.check_power()
        return self.borne[page]

    def cut_after(self, deeds):
        """Let so many more deeds be done, and then no more."""
        if not is_within(deeds, 0, MOST_TOLD):
            raise NoValue("power is cut after 0 to 1000000 deeds")
        self.deeds_left = deeds

    def power_on(self):
        """Put the power on, without end."""
        self.deeds_left = None

    def is_dark(self):
        """Whether no deed is left."""
        return self.deeds_left == 0

    def cleared(self, block):
        """How often a block was cleared."""
        self.check_block(block)
        return self.clearings[block]

    def failed(self, block):
        """Whether a block has failed."""
        self.check_block(block)
        return self.broken[block]

    def deeds(self):
        """All deeds since the chip was made, the oldest first, as (word, place, well)."""
        return list(self.record)

    def check_page(self, page):
        if not is_within(page, 0, self.blocks * self.pages - 1):
            raise NoPlace("there is no such page")

    def check_block(self, block):
        if not is_within(block, 0, self.blocks - 1):
            raise NoPlace("there is no such block")

    def check_power(self):
        if self.is_dark():
            raise PowerGone("the chip is dark")

    def check_deed(self, block):
        self.check_power()
        if self.broken[block]:
            raise BlockFailed(block)

    def is_spent(self, block):
        """Whether a block has done all the deeds that its ill lets it do well."""
        return block in self.limits and self.deed_counts[block] >= self.limits[block]

    def do_deed(self, word, place, block, fails):
        """Count and record a deed; refuse it where the block fails at it."""
        # A deed that fails is a deed all the same: it takes power and stands in the record.
        if self.deeds_left is not None:
            self.deeds_left -= 1
        self.deed_counts[block] += 1
        self.record.append((word, place, not fails))
        if fails:
            self.broken[block] = True
            raise BlockFailed(block)
