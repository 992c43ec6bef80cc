"""Points 54 and 55: long rows of asks of an even store, with power that goes and comes back."""

import random
import unittest

from tests.helper import AskChecks, Usage, Watched, drawn_rule, drawn_terms, refusal_of
from wornpages.errors import NoRoom, PowerGone
from wornpages.even import Even
from wornpages.rules import Eldest, Fewest, Follow, Rule, Turned
from wornpages.sure import Sure
from wornpages.terms import Terms

KINDS = [Even, Sure]


def cold_terms(draw):
    """Terms under which many pages stay where they are, so that blocks must be changed about."""
    while True:
        terms = drawn_terms(draw, (0, 1), (1, 1, 1, 2, 3))
        if terms.pages > 1 and terms.share >= terms.pages:
            return terms


class HotUsage(Usage):
    """Most writings are of a few sheets, once all were written."""

    def drawn_ask(self):
        if len(self.values) < self.store.terms.share:
            return "write", (self.draw.choice([sheet for sheet in range(self.store.terms.sheets)
                                               if sheet not in self.values] or [0]), 7)
        if self.draw.random() < 0.05:
            return "give_up", ([self.draw.randrange(self.store.terms.sheets)],)
        return "write", (self.draw.choice([0, 0, 0, 1, self.draw.randrange(self.store.terms.sheets)]), 8)


def hot_usage(kind, seed):
    draw = random.Random(seed)
    terms = cold_terms(draw)
    rule = draw.choice([Fewest, Rule, Eldest, lambda: Turned(Fewest()), lambda: drawn_rule(draw)])()
    return HotUsage(kind(Watched(terms.blocks, terms.pages), terms, rule), draw)


class Rows(AskChecks, unittest.TestCase):
    def checked_rooms(self, usage, chance):
        """One ask: its makings are within their bound, and the gap is within the spread behind every deed."""
        told = self.checked(usage, chance)
        closed = usage.store.terms.closed()
        self.assertLessEqual(told.rooms, closed + 1 if told.went else closed)
        self.assertLessEqual(max([seen[0] for seen in usage.chip.seen], default=0), usage.store.terms.spread)
        return told

    def test_power_that_goes(self):
        for kind in KINDS:
            for seed in range(40):
                usage = hot_usage(kind, seed)
                for turn in range(80):
                    self.checked_rooms(usage, 0.2)

    def test_drawn_writings(self):
        for kind in KINDS:
            for seed in range(20):
                draw = random.Random(seed)
                terms = drawn_terms(draw)
                usage = Usage(kind(Watched(terms.blocks, terms.pages), terms, drawn_rule(draw)), draw)
                for turn in range(80):
                    self.checked_rooms(usage, 0.1)

    def test_rooms_that_others_have_made(self):
        for kind in KINDS:
            for seed in range(20):
                usage = hot_usage(kind, seed)
                for turn in range(60):
                    usage.cut(0.1)
                    if usage.draw.random() < 0.4:
                        refusal = refusal_of(usage.store.make_room)
                        self.assertIn(refusal.__class__, [None.__class__, NoRoom, PowerGone])
                    usage.store.take(drawn_rule(usage.draw))
                    self.checked_rooms(usage, 0.1)

    def test_power_that_goes_behind_each_number_of_deeds(self):
        for kind in KINDS:
            for deeds in range(60):
                store = kind(Watched(4, 3), Terms(4, 3, 7, 7, 0, 1), Turned(Fewest()))
                usage = HotUsage(store, random.Random(3))
                usage.chip.cut_after(deeds)
                for turn in range(30):
                    self.checked_rooms(usage, 0)

    def test_each_spread_is_reached_and_not_passed(self):
        for kind in KINDS:
            for spread in [1, 2, 3, 7]:
                store = kind(Watched(4, 3), Terms(4, 3, 7, 7, 0, spread), Fewest())
                for sheet in range(7):
                    store.write(sheet, sheet)
                for turn in range(200):
                    store.write(6, turn)
                self.assertEqual(max(seen[0] for seen in store.chip.seen), spread)
                self.assertEqual(store.gap(), store.chip.seen[-1][0])


class RowsWithPower(AskChecks, unittest.TestCase):
    def check_change(self, usage, paper, cleared):
        """A changing about moves a whole block to one that was cleared more often; then its block was cleared."""
        why, options, block, moved, wiped = paper
        pages = usage.store.terms.pages
        self.assertEqual(options, [])
        self.assertEqual(len(moved), pages)
        takers = {move[2] // pages for move in moved}
        self.assertEqual(len(takers), 1)
        self.assertGreater(cleared[takers.pop()], cleared[block])

    def checked_changes(self, usage):
        """How many blocks an ask changed about, and by how much least grew in it."""
        blocks = range(usage.chip.blocks)
        cleared = [usage.chip.cleared(block) for block in blocks]
        least = usage.store.least()
        told = self.checked(usage, 0)
        whys = [paper[0] for paper in told.papers]
        self.assertEqual(whys, (["even"] * (len(whys) - 1) + ["rule"])[:len(whys)])
        for paper in told.papers:
            if paper[0] == "even":
                self.check_change(usage, paper, cleared)
            cleared[paper[2]] += 1
        self.assertEqual(cleared, [usage.chip.cleared(block) for block in blocks])
        grown = usage.store.least() - least
        if len(whys) > 1:
            self.assertEqual(grown, 1)
        return max(len(whys) - 1, 0), grown

    def test_the_changings_about(self):
        for kind in KINDS:
            changes = 0
            many = 0
            for seed in range(40):
                usage = hot_usage(kind, seed)
                told = [self.checked_changes(usage) for turn in range(120)]
                changes += sum(one[0] for one in told)
                many = max(many, max(one[0] for one in told))
                self.assertEqual(len(usage.store.changes()), sum(one[0] for one in told))
                self.check_all_rows(told, usage.store.terms.closed() - 1)
            # The bounds were put to the test.
            self.assertGreater(changes, 200)
            self.assertGreater(many, 1)

    def check_all_rows(self, told, most):
        """In no row of asks more was changed about than by how much least grew in it, so many times."""
        for first in range(len(told)):
            changes = grown = 0
            for change, growth in told[first:]:
                changes += change
                grown += growth
                self.assertLessEqual(changes, most * grown)

    def test_an_ask_that_makes_room_as_often_as_may_be(self):
        # Two of three closed blocks bear what is never written again.
        store = Even(Watched(4, 3), Terms(4, 3, 7, 7, 0, 1), Fewest())
        usage = Usage(store, random.Random(0))
        for sheet in range(7):
            store.write(sheet, sheet)
        most = 0
        for turn in range(100):
            usage.rooms = 0
            store.write(6, turn)
            most = max(most, usage.rooms)
        self.assertEqual(most, store.terms.closed())

    def test_rules_that_change_between_asks(self):
        for kind in KINDS:
            for seed in range(20):
                usage = hot_usage(kind, 500 + seed)
                for turn in range(60):
                    usage.store.take(usage.draw.choice([Rule(), Fewest(), Turned(Fewest()), Follow([2, 1, 0])]))
                    self.checked_changes(usage)


if __name__ == "__main__":
    unittest.main()
