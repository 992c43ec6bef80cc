"""Points 45 and 46: long rows of asks of a store that makes room, with power that goes and comes back."""

import random
import unittest

from tests.helper import AskChecks, Usage, Watched, drawn_rule, drawn_terms, refusal_of
from wornpages.chip import Chip
from wornpages.errors import NoRoom, PowerGone
from wornpages.rules import Eldest, Fewest, Follow, Order, Rule, Turned, Weighed, Window, Worth
from wornpages.store import Store
from wornpages.terms import Terms

RULES = [
    Rule, Fewest, Eldest, Worth, lambda: Weighed(lambda tally: tally[3] % 5), lambda: Turned(Fewest()),
    lambda: Order([Fewest(), Turned(Eldest())]), lambda: Window(2), lambda: Follow([3, 1, 0, 2, 2, 1] * 30),
]


class Rows(AskChecks, unittest.TestCase):
    def checked_rooms(self, usage, chance):
        """One ask, with power that may go at any of its deeds; it makes room once, or twice where the power went."""
        told = self.checked(usage, chance)
        self.assertLessEqual(told.rooms, 2 if told.went else 1)
        return told

    def test_each_rule_with_power_and_without(self):
        for number, rule in enumerate(RULES):
            for chance in [0, 0.3]:
                for seed in range(4):
                    draw = random.Random(1000 * number + seed)
                    terms = drawn_terms(draw)
                    usage = Usage(Store(Chip(terms.blocks, terms.pages), terms, rule()), draw)
                    told = [self.checked_rooms(usage, chance) for turn in range(80)]
                    self.assertTrue(any(one.rooms for one in told))

    def test_rules_that_change_and_rooms_that_others_have_made(self):
        for seed in range(40):
            draw = random.Random(seed)
            terms = drawn_terms(draw)
            usage = Usage(Store(Chip(terms.blocks, terms.pages), terms, Rule()), draw)
            for turn in range(80):
                usage.store.take(drawn_rule(draw))
                usage.cut(0.1)
                if draw.random() < 0.3:
                    self.assertIn(refusal_of(usage.store.make_room).__class__, [None.__class__, NoRoom, PowerGone])
                self.checked_rooms(usage, 0.1)

    def test_the_reserve_lacks_one_block_at_most(self):
        for seed in range(20):
            draw = random.Random(seed)
            terms = drawn_terms(draw)
            usage = Usage(Store(Watched(terms.blocks, terms.pages), terms, drawn_rule(draw)), draw)
            for turn in range(60):
                told = self.checked_rooms(usage, 0.3)
                if told.refusal is None and told.puts:
                    self.assertGreaterEqual(len(usage.store.free()), usage.store.reserve())
            self.assertGreaterEqual(min(free for gap, free, failed in usage.chip.seen), terms.ill)

    def test_every_wipe_has_its_paper(self):
        for seed in range(20):
            draw = random.Random(seed)
            terms = drawn_terms(draw)
            usage = Usage(Store(Chip(terms.blocks, terms.pages), terms, drawn_rule(draw)), draw)
            for turn in range(60):
                self.checked_rooms(usage, 0.3)
            wipes = [deed for deed in usage.chip.deeds() if deed[0] == "wipe"]
            self.assertEqual(wipes, [("wipe", paper[2], True) for paper in usage.store.papers])

    def test_power_that_goes_behind_each_number_of_deeds(self):
        for rule in RULES:
            for deeds in range(40):
                store = Store(Chip(3, 3), Terms(3, 3, 6, 4), rule())
                usage = Usage(store, random.Random(5))
                usage.chip.cut_after(deeds)
                for turn in range(30):
                    self.checked_rooms(usage, 0)

    def test_terms_of_one_closed_block(self):
        for pages in [3, 4, 16]:
            for share in [1, pages - 2]:
                draw = random.Random(pages)
                store = Store(Chip(2, pages), Terms(2, pages, share + 1, share), Turned(Fewest()))
                usage = Usage(store, draw)
                for turn in range(120):
                    self.checked_rooms(usage, 0.2)


class Bounds(unittest.TestCase):
    def puts_of(self, usage, asks, most):
        """How many pages are put for each ask that puts one, where Fewest chooses no block with more live pages."""
        puts = []
        for turn in range(asks):
            told = usage.ask()
            for why, options, block, moved, wiped in told.papers:
                self.assertLessEqual(len(moved), most)
            if told.refusal is None and told.puts:
                puts.append(sum(deed[0] == "put" for deed in told.deeds))
        return puts

    def test_fewest_behind_other_rules(self):
        moves = 0
        for seed in range(60):
            draw = random.Random(seed)
            terms = drawn_terms(draw)
            most = (terms.share + 1) // terms.closed()
            self.assertLess(most, terms.pages)
            usage = Usage(Store(Chip(terms.blocks, terms.pages), terms, drawn_rule(draw)), draw)
            for turn in range(draw.choice([0, 7, 40])):
                usage.ask()
            usage.store.take(Fewest())
            puts = self.puts_of(usage, 80, most)
            moves += sum(puts) - len(puts)
            for first in range(len(puts)):
                for behind in range(first + 1, len(puts) + 1):
                    many = behind - first
                    bound = many + most * (1 + (many - 1) // (terms.pages - most))
                    self.assertLessEqual(sum(puts[first:behind]), bound)
        self.assertGreater(moves, 500)

    def test_the_greatest_share_written_in_turn(self):
        for blocks in range(2, 6):
            for pages in range(1, 6):
                share = (blocks - 1) * pages - 2
                if share < 1:
                    continue
                store = Store(Chip(blocks, pages), Terms(blocks, pages, share, share), Fewest())
                puts = []
                for turn in range(60):
                    before = len(store.chip.deeds())
                    store.write(turn % share, turn)
                    puts.append(sum(deed[0] == "put" for deed in store.chip.deeds()[before:]))
                most = (share + 1) // (blocks - 1)
                self.assertLessEqual(max(puts), 1 + most)
                self.assertLessEqual(sum(puts), 60 + most * (1 + 59 // (pages - most)))


if __name__ == "__main__":
    unittest.main()
