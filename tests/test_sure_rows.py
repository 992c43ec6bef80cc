"""Points 5, 6, 65 and 66: long rows of asks of a sure store, with power that goes and blocks that fail."""

import random
import unittest

from tests.helper import AskChecks, Usage, Watched, drawn_rule, drawn_terms, refusal_of
from wornpages.chip import Chip
from wornpages.coming import come_up
from wornpages.errors import Full, NoRoom, PowerGone, WornOut
from wornpages.rules import Eldest, Fewest, Rule, Turned, Worth
from wornpages.sure import Sure
from wornpages.terms import Terms


def drawn_ills(draw, blocks, many):
    """So many blocks, each of which fails at some deed."""
    return [(block, draw.choice([0, 1, 2, 3, draw.randint(4, 60)])) for block in draw.sample(range(blocks), many)]


def failing_usage(seed, more=0):
    """A sure store on a chip where up to as many blocks fail as may, or more."""
    draw = random.Random(seed)
    terms = drawn_terms(draw)
    ills = drawn_ills(draw, terms.blocks, terms.ill + more if more else draw.randint(0, terms.ill))
    return Usage(Sure(Watched(terms.blocks, terms.pages, 1000, ills), terms, drawn_rule(draw)), draw)


class Promise(AskChecks, unittest.TestCase):
    def checked_bounds(self, usage, chance):
        """One ask, held to the promise."""
        store = usage.store
        terms = store.terms
        told = self.checked(usage, chance)
        closed = terms.closed()
        self.assertLessEqual(told.rooms, closed + 1 if told.went else closed)
        puts = sum(deed[0] == "put" and deed[2] for deed in told.deeds)
        more = terms.pages - 1 if told.rooms == closed + 1 else 0
        self.assertLessEqual(puts, closed * terms.pages + more)
        for gap, free, failed in usage.chip.seen:
            self.assertLessEqual(gap, terms.spread)
            self.assertGreaterEqual(free, terms.ill - failed)
        usage.chip.seen.clear()
        if told.refusal is None and told.puts:
            self.assertGreaterEqual(len(store.free()), store.reserve())
        if not told.went:
            self.assertNotIn("rule", [paper[0] for paper in told.papers[:-1]])
        return told

    def test_blocks_that_fail(self):
        failures = 0
        for seed in range(60):
            usage = failing_usage(seed)
            for turn in range(80):
                self.checked_bounds(usage, 0)
            failures += usage.store.failures()
        self.assertGreater(failures, 20)

    def test_blocks_that_fail_and_power_that_goes(self):
        for seed in range(80):
            usage = failing_usage(seed)
            for turn in range(80):
                self.checked_bounds(usage, 0.25)

    def test_rules_that_change_and_stores_that_come_up(self):
        for seed in range(60):
            usage = failing_usage(1000 + seed)
            for turn in range(80):
                self.checked_bounds(usage, 0.2)
                if usage.draw.random() < 0.2:
                    usage.use(come_up(usage.chip, usage.store.terms, drawn_rule(usage.draw)))
                usage.store.take(drawn_rule(usage.draw))

    def test_rooms_that_others_have_made(self):
        for seed in range(40):
            usage = failing_usage(2000 + seed)
            for turn in range(60):
                usage.cut(0.1)
                if usage.draw.random() < 0.4:
                    refusal = refusal_of(usage.store.make_room)
                    self.assertIn(refusal.__class__, [None.__class__, NoRoom, PowerGone])
                self.checked_bounds(usage, 0.1)

    def test_power_that_goes_behind_each_number_of_deeds(self):
        for deeds in range(50):
            for ills in [[(0, 4)], [(2, 1)], [(3, 0), (1, 7)]]:
                terms = Terms(5, 3, 5, 4, 2, 1)
                usage = Usage(Sure(Watched(5, 3, 1000, ills), terms, Turned(Fewest())), random.Random(4))
                usage.chip.cut_after(deeds)
                for turn in range(25):
                    self.checked_bounds(usage, 0)

    def test_each_block_fails_at_each_of_its_deeds(self):
        for block in range(4):
            for limit in range(25):
                terms = Terms(4, 3, 5, 4, 1, 1)
                usage = Usage(Sure(Watched(4, 3, 1000, [(block, limit)]), terms, Eldest()), random.Random(limit))
                for turn in range(45):
                    self.checked_bounds(usage, 0)

    def test_the_power_stays_away_for_some_asks(self):
        for seed in range(30):
            usage = failing_usage(3000 + seed)
            for turn in range(40):
                self.checked_bounds(usage, 0.3)
                usage.cut(0.2)
                for ask in range(usage.draw.randint(0, 3)):
                    told = usage.ask()
                    self.assertIn(told.refusal, [None, Full, PowerGone])


class MoreFailures(AskChecks, unittest.TestCase):
    refusals = [None, Full, PowerGone, WornOut]

    def test_what_is_read_stays_right(self):
        worn = 0
        for seed in range(60):
            usage = failing_usage(seed, more=1 + seed % 2)
            for turn in range(80):
                was_worn = usage.store.worn()
                told = self.checked(usage, 0.1)
                self.assertEqual(told.refusal is WornOut, usage.store.worn() and told.puts and not told.full)
                if was_worn:
                    self.assertEqual(told.deeds, [])
            worn += usage.store.worn()
        self.assertGreater(worn, 30)

    def test_what_comes_up_there_is_worn_too(self):
        for seed in range(20):
            usage = failing_usage(seed, more=2)
            for turn in range(80):
                self.checked(usage, 0.1)
                usage.use(come_up(usage.chip, usage.store.terms, Fewest()))


class WornLate(AskChecks, unittest.TestCase):
    refusals = [None, Full, PowerGone, WornOut]

    def check_worn_late(self, usage):
        """Just one block more than may has failed, each cleared as often as can be, and no other lags behind."""
        terms = usage.store.terms
        chip = usage.chip
        failed = [block for block in range(chip.blocks) if chip.failed(block)]
        self.assertEqual(len(failed), terms.ill + 1)
        for block in range(chip.blocks):
            if block in failed:
                self.assertEqual(chip.cleared(block), chip.most)
            else:
                self.assertGreater(chip.cleared(block), chip.most - terms.spread)

    def test_used_until_it_is_worn(self):
        for chance in [0, 0.1]:
            for seed in range(30):
                draw = random.Random(seed)
                terms = drawn_terms(draw)
                chip = Chip(terms.blocks, terms.pages, draw.choice([0, 1, 2, 3, 6]))
                usage = Usage(Sure(chip, terms, drawn_rule(draw)), draw)
                told = self.checked(usage, chance)
                while told.refusal is not WornOut:
                    self.assertIs(usage.store.worn(), False)
                    told = self.checked(usage, chance)
                self.check_worn_late(usage)

    def test_written_at_one_sheet_alone(self):
        for rule in [Rule, Fewest, Eldest, Worth]:
            for spread in [1, 2, 4]:
                store = Sure(Chip(5, 3, 5), Terms(5, 3, 7, 7, 1, spread), rule())
                usage = Usage(store, random.Random(1))
                for sheet in range(7):
                    usage.store.write(sheet % 4, sheet)
                refusal = None
                while refusal is None:
                    refusal = refusal_of(store.write, 0, 1)
                self.assertIs(refusal.__class__, WornOut)
                self.check_worn_late(usage)


if __name__ == "__main__":
    unittest.main()
