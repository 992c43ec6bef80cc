"""A store that sees to it that all blocks wear alike."""

from wornpages.errors import NoRoom
from wornpages.store import Store


class Even(Store):
    """A store that lets no block be cleared much more often than another one."""

    def least(self):
        """How often the least cleared of the good blocks was cleared."""
        return min([self.chip.cleared(block) for block in self.good()], default=0)

    def gap(self):
        """By how much more often the most cleared of the good blocks was cleared than the least cleared one."""
        return max([self.chip.cleared(block) for block in self.good()], default=0) - self.least()

    def clearable(self, tallies):
        """Those of the tallies whose blocks may be cleared."""
        bound = self.least() + self.terms.spread
        return [tally for tally in tallies if tally[2] < bound]

    def options(self):
        return self.clearable(self.with_dead_page())

    def choice(self):
        """The block that a making of room would take now, as ("rule", block) or ("even", block)."""
        options = self.options()
        if options == []:
            return ("even", self.block_to_change())
        return self.choice_by_rule(options)

    def block_to_change(self):
        """The block that is changed about where the rule has nothing to choose from."""
        tallies = self.clearable(self.full_ones())
        if tallies == []:
            raise NoRoom("no block may be cleared")
        return min(tallies, key=lambda tally: (tally[2], tally[0]))[0]

    def changes(self):
        """Who was changed about with whom, the oldest first: a list of (block, takers)."""
        return [(paper[2], self.takers(paper[3])) for paper in self.papers if paper[0] == "even"]

    def takers(self, moved):
        """The blocks to which pages were moved, rising, each once."""
        return sorted(set([move[2] // self.terms.pages for move in moved]))
