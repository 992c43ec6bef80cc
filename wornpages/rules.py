"""The rules by which a store chooses a block, told by tallies (block, live, cleared, born)."""

from wornpages.errors import NoRule
from wornpages.words import is_within


def is_unbeaten(rule, tally, tallies, pages, now):
    """Whether by a rule no other one of the tallies goes ahead of this one."""
    for other in tallies:
        if other != tally and rule.goes_ahead(other, tally, pages, now):
            return False
    return True


def first_unbeaten(rule, tallies, pages, now):
    """The block of the first tally ahead of which by a rule no other one goes."""
    place = 0
    while not is_unbeaten(rule, tallies[place], tallies, pages, now):
        place += 1
    return tallies[place][0]


def by_age(tally):
    """Orders tallies by born, those of like born by their blocks."""
    return (tally[3], tally[0])


class Rule:
    """The plain rule: no tally goes ahead of another."""

    def goes_ahead(self, one, other, pages, now):
        """Whether the tally one goes ahead of the other."""
        return False

    def choose(self, tallies, pages, now):
        """The block of one of the tallies."""
        return first_unbeaten(self, tallies, pages, now)


class Fewest(Rule):
    """The tally with fewer live pages goes ahead."""

    def goes_ahead(self, one, other, pages, now):
        return one[1] < other[1]


class Eldest(Rule):
    """The tally with the lower born goes ahead."""

    def goes_ahead(self, one, other, pages, now):
        return one[3] < other[3]


class Worth(Rule):
    """The tally that is worth more, (pages - live) * (now - born) / (pages + live), goes ahead."""

    def goes_ahead(self, one, other, pages, now):
        # Each side is multiplied by both divisors, so that nothing is rounded.
        gain_of_one = (pages - one[1]) * (now - one[3])
        gain_of_other = (pages - other[1]) * (now - other[3])
        return gain_of_one * (pages + other[1]) > gain_of_other * (pages + one[1])


class Weighed(Rule):
    """The tally that weighs less by a function goes ahead."""

    def __init__(self, weigh):
        self.weigh = weigh

    def goes_ahead(self, one, other, pages, now):
        weigh = self.weigh
        return weigh(one) < weigh(other)


class Turned(Rule):
    """A tally goes ahead where by another rule it would stand behind."""

    def __init__(self, rule):
        self.inner = rule

    def goes_ahead(self, one, other, pages, now):
        return self.inner.goes_ahead(other, one, pages, now)


class Order(Rule):
    """The first of several rules that parts two tallies tells which one goes ahead."""

    def __init__(self, rules):
        if not is_within(len(rules), 1, 8):
            raise NoRule("an order is made of one to eight rules")
        self.rules = list(rules)

    def goes_ahead(self, one, other, pages, now):
        for rule in self.rules:
            if rule.goes_ahead(one, other, pages, now):
                return True
            if rule.goes_ahead(other, one, pages, now):
                return False
        return False


class Window(Fewest):
    """Chooses as Fewest does, but only among so many tallies of the lowest born."""

    def __init__(self, many):
        if not is_within(many, 1, 16):
            raise NoRule("a window looks at 1 to 16 tallies")
        self.many = many

    def choose(self, tallies, pages, now):
        seen = sorted(tallies, key=by_age)[:self.many]
        # Of equals the least block is chosen, so those that are seen go back into the order of their blocks.
        return first_unbeaten(self, sorted(seen), pages, now)


class Follow(Rule):
    """Chooses the blocks of a list, one after the other."""

    def __init__(self, blocks):
        self.row = list(blocks)
        self.used = 0

    def choose(self, tallies, pages, now):
        blocks = [tally[0] for tally in tallies]
        if self.used == len(self.row):
            return blocks[0]
        # A number that is no block of the tallies is used up too.
        told = self.row[self.used]
        self.used += 1
        return told if told in blocks else blocks[0]
