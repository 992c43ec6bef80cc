"""Points 80, 81, 82: what is a race, and how it is run by a rule."""

import random
import unittest

from tests.helper import HUGE, NOT_WHOLE, NotingRule, arguments_of, drawn_race, drawn_rule, refusal_of
from wornpages.chip import Chip
from wornpages.errors import NoRace
from wornpages.races import beaten_by, least_moves, moves_by, tail_that_beats
from wornpages.rules import Eldest, Fewest, Follow, Order, Rule, Turned, Weighed, Window, Worth
from wornpages.store import Store
from wornpages.terms import Terms

# The blocks and pages that a race may have, each with K * P.
SHAPES = [(2, 3, 3), (3, 2, 4), (3, 3, 6), (4, 1, 3), (4, 2, 6), (4, 3, 9)]


def asks_of(blocks, pages, row):
    """Each ask that takes a race, with a rule that may not be asked where it is refused."""
    rule = NotingRule(Fewest())
    # No sheet beside those of the row, where it has any.
    sheets = [sheet for sheet in row if sheet in range(64)][:1] if isinstance(row, list) else []
    return [
        (rule, moves_by, (blocks, pages, row, rule)), (rule, least_moves, (blocks, pages, row)),
        (rule, beaten_by, (blocks, pages, row, rule)),
        (rule, tail_that_beats, (blocks, pages, row, [int(sheet) for sheet in sheets] or [0], 0, rule)),
    ]


class Bounds(unittest.TestCase):
    def refused(self, blocks, pages, row):
        handed = list(row) if isinstance(row, list) else row
        for rule, ask, values in asks_of(blocks, pages, row):
            self.assertIs(refusal_of(ask, *values).__class__, NoRace, (ask, values))
            self.assertEqual(rule.asks, [])
        self.assertEqual(row, handed)

    def done(self, blocks, pages, row):
        handed = list(row)
        for rule, ask, values in asks_of(blocks, pages, row):
            self.assertIsNone(refusal_of(ask, *values), (ask, values))
        self.assertEqual(row, handed)

    def test_arguments(self):
        self.assertEqual(arguments_of(moves_by), ["blocks", "pages", "row", "rule"])
        self.assertEqual(arguments_of(least_moves), ["blocks", "pages", "row"])

    def test_blocks_and_pages(self):
        shapes = [(blocks, pages) for blocks, pages, closed in SHAPES]
        for blocks in [-1, 0, 1, 2, 3, 4, 5, 6, 16, HUGE]:
            for pages in [-1, 0, 1, 2, 3, 4, 5, 16, HUGE]:
                ask = self.done if (blocks, pages) in shapes else self.refused
                ask(blocks, pages, [])
                ask(blocks, pages, [0])

    def test_what_is_no_whole_number(self):
        for thing in NOT_WHOLE:
            self.refused(thing, 3, [0])
            self.refused(3, thing, [0])
            self.refused(3, 3, [0, thing])
            self.refused(3, 3, [thing])

    def test_truths_beside_the_numbers_that_they_equal(self):
        self.refused(4, True, [0])
        self.refused(3, 3, [1, True])
        self.refused(3, 3, [0, False])

    def test_sheets(self):
        for sheet in [0, 1, 62, 63]:
            self.done(3, 3, [sheet])
        for sheet in [-1, -64, 64, 65, HUGE, -HUGE]:
            self.refused(3, 3, [sheet])
            self.refused(3, 3, [0, 1, sheet, 0])

    def test_how_many_sheets(self):
        for blocks, pages, closed in SHAPES:
            for length in [0, 1, closed, closed + 1, closed + 5, closed + 6]:
                self.done(blocks, pages, [0] * length)
            for length in [closed + 7, closed + 8, 100]:
                self.refused(blocks, pages, [0] * length)

    def test_how_many_unlike_sheets(self):
        for blocks, pages, closed in SHAPES:
            for many in [1, closed - 2]:
                self.done(blocks, pages, list(range(many)))
                self.done(blocks, pages, list(range(63, 63 - many, -1)) + [63, 63])
            for many in [closed - 1, closed]:
                self.refused(blocks, pages, list(range(many)))
                self.refused(blocks, pages, list(range(many)) + [0])

    def test_no_list(self):
        for row in [None, 3, True, "", "12", (), (0, 1), {0: 1}]:
            self.refused(3, 3, row)


class Running(unittest.TestCase):
    def ran(self, blocks, pages, row, rule, due):
        handed = list(row)
        told = moves_by(blocks, pages, row, rule)
        self.assertEqual(told, due)
        self.assertEqual((told.__class__, told[0].__class__, told[1].__class__), (tuple, int, list))
        self.assertEqual(row, handed)

    def test_no_making_of_room(self):
        for blocks, pages, closed in SHAPES:
            self.ran(blocks, pages, [], Fewest(), (0, []))
            self.ran(blocks, pages, [7] * closed, Fewest(), (0, []))

    def test_each_rule(self):
        # Three blocks of three pages; behind six writings block 0 bears the live sheets 0 and 1, block 1 sheet 2.
        row = [0, 1, 2, 2, 2, 2, 0]
        for rule, due in [
            (Rule(), (2, [0])), (Fewest(), (1, [1])), (Eldest(), (2, [0])), (Turned(Fewest()), (2, [0])),
            (Turned(Eldest()), (1, [1])), (Worth(), (1, [1])), (Turned(Worth()), (2, [0])),
            (Window(1), (2, [0])), (Window(2), (1, [1])), (Follow([1]), (1, [1])), (Follow([0]), (2, [0])),
            (Follow([2]), (2, [0])), (Order([Rule(), Turned(Eldest())]), (1, [1])),
            (Weighed(lambda tally: -tally[0]), (1, [1])),
        ]:
            self.ran(3, 3, row, rule, due)

    def test_several_makings(self):
        row = [0, 1, 1, 1, 0, 0]
        self.ran(3, 2, row, Fewest(), (2, [0, 1]))
        self.ran(3, 2, row, Follow([1, 0]), (1, [1, 0]))
        # Block 2 is full of live pages at the second making, and so is no option.
        self.ran(3, 2, row, Follow([1, 2]), (1, [1, 0]))

    def test_as_a_store_by_hand(self):
        for seed in range(200):
            blocks, pages, row = drawn_race(random.Random(seed))
            closed = (blocks - 1) * pages
            store = Store(Chip(blocks, pages), Terms(blocks, pages, 64, closed - 2), drawn_rule(random.Random(seed)))
            for place, sheet in enumerate(row):
                store.write(sheet, place)
            moves = sum(len(paper[3]) for paper in store.papers)
            due = (moves, [paper[2] for paper in store.papers])
            self.ran(blocks, pages, row, drawn_rule(random.Random(seed)), due)

    def test_a_rule_that_follows_goes_on_from_race_to_race(self):
        # Each race makes room twice, and so uses up two numbers.
        row = [0, 1, 1, 1, 0, 0]
        rule = Follow([1, 0, 0, 1, 9])
        self.assertEqual([moves_by(3, 2, row, rule) for turn in range(4)],
                         [(1, [1, 0]), (2, [0, 1]), (2, [0, 1]), (2, [0, 1])])
        rule = Follow([0, 1, 1])
        self.assertEqual([moves_by(3, 2, row, rule)[1] for turn in range(2)], [[0, 1], [1, 0]])

    def test_what_the_rule_is_asked(self):
        rule = NotingRule(Fewest())
        moves_by(3, 2, [0, 1, 1, 1, 0, 0], rule)
        self.assertEqual(rule.asks, [([(0, 1, 0, 1), (1, 1, 0, 3)], 2, 5), ([(1, 1, 0, 3), (2, 1, 0, 5)], 2, 7)])

    def test_the_answer_is_the_askers_own(self):
        row = [0, 1, 1, 1, 0, 0]
        for ask in [lambda: moves_by(3, 2, row, Fewest()), lambda: least_moves(3, 2, row)]:
            answer = ask()
            again = ask()
            answer[1].append(99)
            self.assertNotIn(99, again[1] + ask()[1])


class Makings(unittest.TestCase):
    def counts(self, blocks, pages, row, rule):
        """How many makings there were behind each writing, and how many options each had."""
        noting = NotingRule(rule)
        moves_by(blocks, pages, row, noting)
        options = [len(tallies) for tallies, own, now in noting.asks]
        made = [len(moves_by(blocks, pages, row[:length], rule)[1]) for length in range(len(row) + 1)]
        return made, options

    def test_the_first_making_and_one_a_writing(self):
        makings = 0
        for seed in range(250):
            draw = random.Random(seed)
            blocks, pages, row = drawn_race(draw)
            closed = (blocks - 1) * pages
            rule = draw.choice([Rule(), Fewest(), Eldest(), Worth(), Turned(Fewest()), Turned(Eldest()), Window(2)])
            made, options = self.counts(blocks, pages, row, rule)
            self.assertEqual(made[:closed + 1], [0] * len(made[:closed + 1]))
            if len(row) > closed:
                self.assertEqual(made[closed + 1], 1)
            self.assertLessEqual(max([after - before for before, after in zip(made, made[1:])], default=0), 1)
            self.assertLessEqual(max(options, default=0), blocks - 1)
            makings = max(makings, len(options))
        self.assertEqual(makings, 6)


if __name__ == "__main__":
    unittest.main()
