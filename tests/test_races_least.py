"""Points 83, 84, 85: the least of a race, by how much a rule is beaten, and tails that beat a rule."""

import itertools
import random
import unittest

from tests.helper import HUGE, NOT_WHOLE, NotingRule, arguments_of, drawn_race, drawn_rule, refusal_of
from wornpages.chip import Chip
from wornpages.errors import NoRace
from wornpages.races import beaten_by, least_moves, moves_by, tail_that_beats
from wornpages.rules import Eldest, Fewest, Follow, Order, Rule, Turned, Window, Worth
from wornpages.store import Store
from wornpages.terms import Terms


def papers_by(blocks, pages, row, choices):
    """The papers of a race in which these blocks are chosen, as long as they reach."""
    store = Store(Chip(blocks, pages), Terms(blocks, pages, 64, (blocks - 1) * pages - 2), Follow(choices))
    for sheet in row:
        store.write(sheet, 7)
    return store.papers


def all_ways(blocks, pages, row):
    """Every way to choose in a race, as (moves, choices)."""
    ways = []
    begun = [[]]
    while begun:
        choices = begun.pop()
        papers = papers_by(blocks, pages, row, choices)
        if len(papers) > len(choices):
            begun += [choices + [tally[0]] for tally in papers[len(choices)][1]]
        else:
            ways.append((sum(len(paper[3]) for paper in papers), choices))
    return ways


def unlike_rows(length, most):
    """All rows of so many sheets with at most so many unlike ones, but of rows that differ in names alone just one."""
    rows = [[]]
    for turn in range(length):
        rows = [row + [sheet] for row in rows for sheet in range(min(most, len(set(row)) + 1))]
    return rows


def rows_in_turn(blocks, pages):
    """All rows that go in turn through at most (K - 1) * P unlike sheets, and are rows of a race."""
    closed = (blocks - 1) * pages
    for many in range(1, min((blocks - 2) * pages, closed - 2) + 1):
        for length in range(closed + 7):
            yield [place % many for place in range(length)]


class Least(unittest.TestCase):
    def least(self, blocks, pages, row):
        handed = list(row)
        told = least_moves(blocks, pages, row)
        self.assertEqual(told, min(all_ways(blocks, pages, row)), (blocks, pages, row))
        self.assertEqual((told.__class__, told[0].__class__, told[1].__class__), (tuple, int, list))
        self.assertEqual(row, handed)
        return told

    def test_rows_without_a_making(self):
        for blocks, pages in [(2, 3), (3, 2), (3, 3), (4, 1), (4, 2), (4, 3)]:
            self.assertEqual(self.least(blocks, pages, []), (0, []))
            self.assertEqual(self.least(blocks, pages, [4] * (blocks - 1) * pages), (0, []))

    def test_every_row_of_the_smallest_races(self):
        for length in range(11):
            for row in unlike_rows(length, 2):
                self.least(3, 2, row)

    def test_rows_of_one_sheet(self):
        for blocks, pages in [(2, 3), (4, 1)]:
            for length in range((blocks - 1) * pages + 7):
                self.least(blocks, pages, [63] * length)

    def test_drawn_rows(self):
        moved = 0
        for seed in range(200):
            moved += self.least(*drawn_race(random.Random(seed)))[0] > 0
        self.assertGreater(moved, 40)

    def test_of_several_ways_the_first(self):
        several = 0
        for seed in range(300, 360):
            race = drawn_race(random.Random(seed))
            ways = sorted(all_ways(*race))
            several += len([way for way in ways if way[0] == ways[0][0]]) > 1
            self.assertEqual(least_moves(*race), ways[0])
        self.assertGreater(several, 15)

    def test_a_rule_that_follows_moves_just_as_many(self):
        for seed in range(200):
            race = drawn_race(random.Random(seed))
            least = least_moves(*race)
            self.assertEqual(moves_by(*race, Follow(least[1])), least)

    def test_no_rule_moves_fewer(self):
        for seed in range(200):
            draw = random.Random(seed)
            race = drawn_race(draw)
            least = least_moves(*race)[0]
            for rule in [Rule(), Fewest(), Eldest(), Worth(), Turned(Worth()), drawn_rule(draw), drawn_rule(draw)]:
                self.assertGreaterEqual(moves_by(*race, rule)[0], least)


class Beaten(unittest.TestCase):
    def test_arguments(self):
        self.assertEqual(arguments_of(beaten_by), ["blocks", "pages", "row", "rule"])

    def test_the_difference(self):
        beaten = 0
        for seed in range(100):
            draw = random.Random(seed)
            race = drawn_race(draw)
            told = beaten_by(*race, drawn_rule(random.Random(seed)))
            self.assertEqual(told, moves_by(*race, drawn_rule(random.Random(seed)))[0] - min(all_ways(*race))[0])
            self.assertIs(told.__class__, int)
            beaten += told > 0
        self.assertGreater(beaten, 10)

    def test_the_rules_race_is_run_just_once(self):
        row = [0, 1, 1, 1, 0, 0]
        rule = NotingRule(Fewest())
        beaten_by(3, 2, row, rule)
        self.assertEqual(len(rule.asks), 2)
        rule = Follow([1, 0, 0, 1])
        self.assertEqual([beaten_by(3, 2, row, rule) for turn in range(2)], [0, 1])
        rule = Follow([0, 1, 1, 0])
        self.assertEqual([beaten_by(3, 2, row, rule) for turn in range(2)], [1, 0])

    def test_two_sheets_on_three_blocks_of_two_pages(self):
        for a, b in [(0, 1), (1, 0), (63, 5)]:
            row = [a, b, b, b, a, a]
            self.assertEqual(moves_by(3, 2, row, Fewest()), (2, [0, 1]))
            self.assertEqual([len(paper[3]) for paper in papers_by(3, 2, row, [0, 1])], [1, 1])
            self.assertEqual(least_moves(3, 2, row), (1, [1, 0]))
            self.assertEqual(beaten_by(3, 2, row, Fewest()), 1)

    def test_fewest_is_not_beaten_with_one_making(self):
        for blocks, pages in [(2, 3), (3, 2), (3, 3), (4, 1), (4, 2)]:
            closed = (blocks - 1) * pages
            for length in [closed, closed + 1]:
                for row in unlike_rows(length, closed - 2):
                    self.assertEqual(beaten_by(blocks, pages, row, Fewest()), 0)
        draw = random.Random(1)
        for turn in range(200):
            row = [draw.randrange(7) for place in range(draw.choice([9, 10]))]
            self.assertEqual(beaten_by(4, 3, row, Fewest()), 0)

    def test_fewest_moves_no_page_of_rows_that_go_in_turn(self):
        for blocks, pages in [(2, 3), (3, 2), (3, 3), (4, 1), (4, 2), (4, 3)]:
            for row in rows_in_turn(blocks, pages):
                self.assertEqual(moves_by(blocks, pages, row, Fewest())[0], 0)
                self.assertEqual(beaten_by(blocks, pages, row, Fewest()), 0)


def first_tail(blocks, pages, row, sheets, more, rule):
    """The first tail that beats a rule, all races gone through way by way."""
    for tail in itertools.product(sheets, repeat=more):
        race = (blocks, pages, row + list(tail))
        moves = moves_by(*race, rule)[0]
        least = min(all_ways(*race))[0]
        if moves > least:
            return (list(tail), moves, least)
    return None


class Tails(unittest.TestCase):
    def found(self, *handed):
        row, sheets = list(handed[2]), list(handed[3])
        told = tail_that_beats(*handed)
        self.assertEqual(told, first_tail(*handed), handed)
        self.assertEqual((handed[2], handed[3]), (row, sheets))
        if told is not None:
            self.assertEqual([thing.__class__ for thing in (told,) + told], [tuple, list, int, int])
        return told

    def test_arguments(self):
        self.assertEqual(arguments_of(tail_that_beats), ["blocks", "pages", "row", "sheets", "more", "rule"])

    def test_the_row_with_its_numbers(self):
        self.assertEqual(self.found(3, 2, [0, 1, 1, 1], [0, 1], 2, Fewest()), ([0, 0], 2, 1))
        self.assertEqual(self.found(3, 2, [0, 1, 1, 1, 0, 0], [0], 0, Fewest()), ([], 2, 1))
        self.assertEqual(self.found(3, 2, [0, 1, 1, 1, 0], [1, 0], 1, Fewest()), ([1], 2, 1))
        self.assertEqual(self.found(3, 2, [0, 1, 1, 1, 0], [0, 1], 1, Fewest()), ([0], 2, 1))
        self.assertIsNone(self.found(3, 2, [0, 1, 1, 1], [0, 1], 1, Fewest()))
        self.assertIsNone(self.found(3, 2, [0, 1, 1, 1, 0], [0], 0, Fewest()))

    def test_the_order_of_the_tails(self):
        # The order of the places in the list, not that of the sheets; one sheet may stand there twice.
        row = [0, 1, 1, 1, 0, 1]
        for sheets in [[0, 1], [1, 0], [1, 1, 0], [0, 1, 0], [1, 0, 0]]:
            for more in range(4):
                self.found(3, 2, row, sheets, more, Fewest())
                self.found(3, 2, row[:4], sheets, more, Fewest())
        # From the row on by itself two tails beat the rule, and either list begins with another one.
        beating = [list(tail) for tail in itertools.product([0, 1], repeat=3)
                   if beaten_by(3, 2, row[:4] + list(tail), Turned(Fewest()))]
        self.assertGreater(len(beating), 1)
        self.assertEqual(self.found(3, 2, row[:4], [0, 1], 3, Turned(Fewest()))[0], min(beating))
        self.assertEqual(self.found(3, 2, row[:4], [1, 0], 3, Turned(Fewest()))[0], max(beating))

    def test_drawn_tails(self):
        told = 0
        for seed in range(60):
            draw = random.Random(seed)
            blocks, pages, row = drawn_race(draw)
            more = draw.randint(0, 3)
            row = row[:(blocks - 1) * pages + 6 - more]
            sheets = [draw.choice(row or [5]) for turn in range(draw.randint(1, 2))]
            rule = draw.choice([Rule(), Fewest(), Eldest(), Worth(), Window(2), Turned(Fewest()),
                                Order([Eldest(), Fewest()])])
            told += self.found(blocks, pages, row, sheets, more, rule) is not None
        self.assertGreater(told, 10)
        self.assertLess(told, 50)

    def test_three_unlike_sheets_and_three_more(self):
        self.found(3, 3, [0, 1, 2, 2, 1, 3, 3, 0], [2, 3, 0], 3, Fewest())
        self.found(4, 2, [0, 1, 2, 2, 1, 3, 3], [3, 1, 2], 3, Eldest())

    def test_the_answer_is_the_askers_own(self):
        sheets = [0, 1]
        answer = tail_that_beats(3, 2, [0, 1, 1, 1], sheets, 2, Fewest())
        sheets.append(9)
        answer[0].append(9)
        self.assertEqual(tail_that_beats(3, 2, [0, 1, 1, 1], [0, 1], 2, Fewest()), ([0, 0], 2, 1))


class TailBounds(unittest.TestCase):
    def refused(self, blocks, pages, row, sheets, more):
        rule = NotingRule(Fewest())
        handed = [list(thing) if isinstance(thing, list) else thing for thing in (row, sheets)]
        refusal = refusal_of(tail_that_beats, blocks, pages, row, sheets, more, rule)
        self.assertIs(refusal.__class__, NoRace)
        self.assertEqual(rule.asks, [])
        self.assertEqual([row, sheets], handed)

    def done(self, *handed):
        self.assertIsNone(refusal_of(tail_that_beats, *handed, Fewest()), handed)

    def test_no_race(self):
        for blocks, pages, row in [(1, 3, []), (5, 3, []), (3, 0, []), (3, 4, []), (2, 2, []), (3, 1, []),
                                   (True, 3, []), (3, None, []), (3, 3, [64]), (3, 3, [True]), (3, 3, None),
                                   (3, 3, [0, 1, 2, 3, 4]), (3, 3, [0] * 13)]:
            self.refused(blocks, pages, row, [0], 0)

    def test_the_list_of_sheets(self):
        for sheets in [[0], [0, 1], [0, 1, 2], [5, 5, 5], [63], [62, 63]]:
            self.done(3, 3, [], sheets, 1)
        for sheets in [[], [0, 1, 2, 3], [0, 0, 0, 0], [-1], [64], [0, 64], [0, -1, 1], [HUGE],
                       None, 1, "0", (0,), (0, 1), {0: 1}]:
            self.refused(3, 3, [], sheets, 1)
            self.refused(3, 3, [], sheets, 0)
        for thing in NOT_WHOLE:
            self.refused(3, 3, [0], [thing], 1)
            self.refused(3, 3, [0], [0, thing], 0)

    def test_more(self):
        for more in [0, 1, 2, 3]:
            self.done(3, 3, [], [0], more)
        for more in [-1, 4, 5, HUGE, -HUGE] + NOT_WHOLE:
            self.refused(3, 3, [], [0], more)

    def test_how_long_the_row_is(self):
        for blocks, pages, closed in [(2, 3, 3), (3, 2, 4), (4, 1, 3), (3, 3, 6)]:
            for more in range(4):
                self.done(blocks, pages, [0] * (closed + 6 - more), [0], more)
                self.refused(blocks, pages, [0] * (closed + 7 - more), [0], more)

    def test_how_many_unlike_sheets(self):
        for more in range(4):
            self.done(3, 3, [0, 1, 2], [3, 0, 3], more)
            self.done(3, 3, [0], [1, 2, 3], more)
            self.done(3, 3, [0, 1, 2, 3], [0, 3, 1], more)
            self.refused(3, 3, [0, 1, 2], [3, 4], more)
            self.refused(3, 3, [0, 1, 2, 3], [4], more)
            self.refused(3, 2, [], [0, 1, 2], more)
            self.refused(4, 1, [0], [1], more)
            self.done(4, 1, [0], [0], more)


if __name__ == "__main__":
    unittest.main()
