"""A store that makes room: it chooses a block by a rule, moves what is live there, and wipes it."""

from wornpages.errors import NoRoom
from wornpages.marks import ROLL, bits_of
from wornpages.plain import Plain


def paper_of(why, options, block, moved, wiped):
    """The paper of a making of room, with lists of its own."""
    return (why, list(options), block, list(moved), wiped)


def pages_moved(papers):
    """How many pages were moved in the makings of room that gave these papers."""
    return sum([len(paper[3]) for paper in papers])


class Store(Plain):
    """A plain store that makes room by a rule where clear pages run short."""

    def __init__(self, chip, terms, rule):
        Plain.__init__(self, chip, terms)
        self.rule = rule
        self.papers = []

    def take(self, rule):
        """Go by another rule from now on."""
        self.rule = rule

    def reserve(self):
        return 1 + self.terms.ill

    def tally(self, block):
        """What a rule is told of a block: (block, live, cleared, born)."""
        return (block, self.book.live[block], self.chip.cleared(block), self.book.born[block])

    def space(self):
        """How many pages can be moved now."""
        if len(self.free()) >= self.reserve():
            return self.terms.pages
        part = self.part()
        if part is None:
            return 0
        return self.terms.pages - self.book.filled[part]

    def full_ones(self):
        """The tallies of the good full blocks whose live pages can be moved now, the blocks rising."""
        space = self.space()
        full = [block for block in self.good() if self.book.filled[block] == self.terms.pages]
        tallies = [self.tally(block) for block in full]
        return [tally for tally in tallies if tally[1] <= space]

    def with_dead_page(self):
        """The full ones that have a dead page."""
        return [tally for tally in self.full_ones() if tally[1] < self.terms.pages]

    def options(self):
        """The tallies among which the rule chooses."""
        return self.with_dead_page()

    def choice(self):
        """The block that a making of room would take now, as ("rule", block)."""
        options = self.options()
        if options == []:
            raise NoRoom("no block can be chosen")
        return self.choice_by_rule(options)

    def choice_by_rule(self, options):
        """What the rule chooses among tallies, as ("rule", block)."""
        return ("rule", self.rule.choose(options, self.terms.pages, self.book.stamp))

    def moved(self, block):
        """Move the live pages of a block, the least first; the list of (name, from, to)."""
        moves = []
        for page, name in self.book.live_pages(block):
            moves.append((name, page, self.lay(name, self.value_to_move(page, name))))
        return moves

    def value_to_move(self, page, name):
        """What is put anew for a live page."""
        # A roll gives up all that it doesn't name, so its old bits would give up what was written since.
        if name == ROLL:
            return bits_of(self.held())
        return self.chip.read(page)[1]

    def wiped(self, block):
        """Wipe a block that has no live page; whether that was done."""
        self.clear_out(block)
        return True

    def clear_out(self, block):
        self.chip.wipe(block)
        # The book is told behind the wipe: it must know nothing of a wipe that was refused.
        self.book.emptied(block)

    def make_room(self):
        """Move what is live in one block and wipe it; the paper (why, options, block, moved, wiped)."""
        options = self.options()
        chosen = self.choice()
        moved = self.moved(chosen[1])
        wiped = self.wiped(chosen[1])
        self.papers.append(paper_of(chosen[0], options, chosen[1], moved, wiped))
        return paper_of(chosen[0], options, chosen[1], moved, wiped)

    def make_ready(self):
        """Make room as long as the store is not ready."""
        self.make_rooms()

    def make_rooms(self):
        while not self.ready():
            self.make_room()
