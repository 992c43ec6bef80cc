"""Points 30 to 34: the rules by which one tally goes ahead of another, and how they choose."""

import random
import unittest
from fractions import Fraction

from tests.helper import arguments_of, drawn_tallies, truths_of
from wornpages.rules import Eldest, Fewest, Follow, Order, Rule, Turned, Weighed, Window, Worth

FAR = 10 ** 30 - 1


def worth_of(tally, pages, now):
    return Fraction((pages - tally[1]) * (now - tally[3]), pages + tally[1])


def weight_of(tally):
    """An odd weight, in which every number of a tally counts."""
    block, live, cleared, born = tally
    return (block * 7 + live * 5 + cleared * 3 + born) % 11 - 5


# Each rule, and what it orders tallies by: the one with the lesser of these goes ahead.
RULES = [
    (Rule(), lambda tally, pages, now: 0),
    (Fewest(), lambda tally, pages, now: tally[1]),
    (Eldest(), lambda tally, pages, now: tally[3]),
    (Worth(), lambda tally, pages, now: -worth_of(tally, pages, now)),
    (Weighed(weight_of), lambda tally, pages, now: weight_of(tally)),
    (Weighed(lambda tally: -tally[2]), lambda tally, pages, now: -tally[2]),
]


class Interface(unittest.TestCase):
    def test_arguments_and_bases(self):
        self.assertEqual(arguments_of(Rule), [])
        for kind, base, names in [
            (Fewest, Rule, []), (Eldest, Rule, []), (Worth, Rule, []), (Weighed, Rule, ["weigh"]),
            (Turned, Rule, ["rule"]), (Order, Rule, ["rules"]), (Window, Fewest, ["many"]), (Follow, Rule, ["blocks"]),
        ]:
            self.assertEqual(kind.__bases__, (base,))
            self.assertEqual(arguments_of(kind), names)
        for rule in [Rule(), Fewest(), Eldest(), Worth(), Weighed(len), Turned(Rule()), Order([Rule()]), Window(1),
                     Follow([])]:
            self.assertEqual(arguments_of(rule.goes_ahead), ["one", "other", "pages", "now"])
            self.assertEqual(arguments_of(rule.choose), ["tallies", "pages", "now"])


class TwoTallies(unittest.TestCase):
    def both_ways(self, rule, one, other, pages, now):
        """One goes ahead of the other, and not the other way round."""
        self.assertEqual(truths_of(rule, one, other, pages, now), (True, False))

    def alike(self, rule, one, other, pages, now):
        self.assertEqual(truths_of(rule, one, other, pages, now), (False, False))

    def test_plain(self):
        for one in [(0, 0, 0, 0), (1, 4, 9, 7)]:
            for other in [(0, 0, 0, 0), (2, 1, 30, 2), (15, 4, FAR, 8)]:
                self.alike(Rule(), one, other, 4, 10)

    def test_fewest(self):
        self.both_ways(Fewest(), (5, 0, 9, 9), (1, 1, 0, 0), 4, 10)
        self.both_ways(Fewest(), (0, 3, 0, 0), (1, 4, 0, 0), 4, 10)
        self.alike(Fewest(), (0, 3, 7, 1), (1, 3, 0, 2), 4, 10)

    def test_eldest(self):
        self.both_ways(Eldest(), (5, 4, 9, 0), (1, 0, 0, 1), 4, 10)
        self.both_ways(Eldest(), (5, 4, 9, FAR - 2), (1, 0, 0, FAR - 1), 4, FAR)
        self.alike(Eldest(), (5, 4, 9, 3), (1, 0, 0, 3), 4, 10)

    def test_worth(self):
        # 3 * 6 / 5 is more than 2 * 9 / 6, and 4 * 2 / 4 less than 1 * 15 / 7.
        self.both_ways(Worth(), (0, 1, 0, 4), (1, 2, 0, 1), 4, 10)
        self.both_ways(Worth(), (1, 3, 0, 1), (0, 0, 0, 14), 4, 16)
        # 4 * 3 / 4 is as much as 2 * 9 / 6; a block that is live as a whole is worth nothing.
        self.alike(Worth(), (0, 0, 0, 7), (1, 2, 5, 1), 4, 10)
        self.alike(Worth(), (0, 4, 0, 9), (1, 4, 0, 0), 4, 10)
        self.both_ways(Worth(), (0, 3, 0, 9), (1, 4, 0, 0), 4, 10)

    def test_worth_goes_by_pages_and_now(self):
        one, other = (0, 1, 0, 4), (1, 0, 0, 6)
        self.both_ways(Worth(), other, one, 2, 10)
        self.both_ways(Worth(), one, other, 16, 10)
        self.both_ways(Worth(), other, one, 2, 100)
        self.both_ways(Worth(), other, one, 16, 100)
        self.both_ways(Worth(), one, other, 16, 7)

    def test_worth_exactly_with_thirty_figures(self):
        now = FAR
        # Both are worth the same; one stamp more or less parts them.
        for live_one, live_other, pages in [(1, 3, 4), (0, 15, 16), (7, 8, 16), (2, 5, 9)]:
            step = 10 ** 26
            age_one = (pages - live_other) * (pages + live_one) * step
            age_other = (pages - live_one) * (pages + live_other) * step
            one, other = (3, live_one, 0, now - age_one), (4, live_other, 0, now - age_other)
            self.alike(Worth(), one, other, pages, now)
            self.both_ways(Worth(), one[:3] + (one[3] - 1,), other, pages, now)
            self.both_ways(Worth(), other, one[:3] + (one[3] + 1,), pages, now)

    def test_weighed_by_any_function(self):
        one, other = (3, 2, 8, 5), (4, 1, 9, 5)
        for weigh in [lambda t: t[0], lambda t: -t[1], lambda t: t[2] ** 40, lambda t: t[0] - 100]:
            self.both_ways(Weighed(weigh), one, other, 4, 10)
            self.alike(Weighed(weigh), one, one, 4, 10)
        for weigh in [lambda t: 0, lambda t: t[3], lambda t: t[0] + t[1], lambda t: t[0] // 10 ** 9]:
            self.alike(Weighed(weigh), one, other, 4, 10)

    def test_weighed_is_handed_the_tuple(self):
        seen = []

        def weigh(tally):
            seen.append(tally)
            return 1
        Weighed(weigh).choose([(1, 2, 3, 4), (5, 6, 7, 8)], 9, 10)
        self.assertEqual(set(seen), {(1, 2, 3, 4), (5, 6, 7, 8)})
        self.assertTrue(all(tally.__class__ is tuple for tally in seen))

    def test_a_tally_and_itself(self):
        for rule, key in RULES:
            for tally in [(0, 0, 0, 0), (7, 3, 2, 9), (15, 16, FAR, FAR - 1)]:
                self.alike(rule, tally, tally, 16, FAR)

    def test_two_tallies_of_one_block(self):
        self.both_ways(Fewest(), (2, 1, 0, 0), (2, 2, 0, 0), 4, 10)
        self.both_ways(Eldest(), (2, 1, 0, 3), (2, 1, 0, 4), 4, 10)
        self.both_ways(Worth(), (2, 1, 0, 3), (2, 1, 0, 4), 4, 10)
        self.both_ways(Weighed(lambda t: t[2]), (2, 1, 0, 3), (2, 1, 1, 3), 4, 10)
        self.alike(Rule(), (2, 1, 0, 3), (2, 2, 1, 4), 4, 10)

    def test_drawn_tallies(self):
        draw = random.Random(31)
        for times in range(300):
            pages = draw.randint(1, 16)
            top = draw.choice([3, 12, FAR])
            one, other = drawn_tallies(draw, 2, pages, top)
            for rule, key in RULES:
                ones, others = key(one, pages, top), key(other, pages, top)
                self.assertEqual(truths_of(rule, one, other, pages, top), (ones < others, others < ones))


class Choosing(unittest.TestCase):
    def test_one_tally_alone(self):
        for rule, key in RULES:
            for block in range(16):
                self.assertEqual(rule.choose([(block, 4, 0, 0)], 4, 1), block)

    def test_plain_takes_the_first(self):
        self.assertEqual(Rule().choose([(3, 4, 9, 9), (4, 0, 0, 0), (9, 1, 1, 1)], 4, 10), 3)

    def test_each_rule_takes_its_own(self):
        tallies = [(2, 3, 4, 15), (5, 1, 6, 17), (7, 2, 0, 1), (11, 4, 1, 0)]
        self.assertEqual(Fewest().choose(tallies, 4, 20), 5)
        self.assertEqual(Eldest().choose(tallies, 4, 20), 11)
        self.assertEqual(Worth().choose(tallies, 4, 20), 7)
        self.assertEqual(Weighed(lambda tally: -tally[2]).choose(tallies, 4, 20), 5)
        self.assertEqual(Weighed(lambda tally: tally[2]).choose(tallies, 4, 20), 7)

    def test_of_equals_the_least_block(self):
        for count in range(1, 17):
            for rule, key in RULES:
                if isinstance(rule, Weighed):
                    continue
                self.assertEqual(rule.choose([(block, 2, 5, 3) for block in range(16 - count, 16)], 4, 9), 16 - count)
        tallies = [(1, 3, 0, 4), (4, 2, 1, 2), (6, 2, 1, 2), (8, 3, 0, 4)]
        for rule in [Fewest(), Eldest(), Worth(), Weighed(lambda tally: tally[1])]:
            self.assertEqual(rule.choose(tallies, 4, 9), 4)

    def test_among_one_to_sixteen(self):
        draw = random.Random(32)
        for times in range(30):
            for count in range(1, 17):
                pages = draw.randint(1, 16)
                top = draw.choice([2, 5, FAR])
                tallies = drawn_tallies(draw, count, pages, top)
                for rule, key in RULES:
                    best = min(tallies, key=lambda tally: (key(tally, pages, top), tally[0]))
                    self.assertEqual(rule.choose(tallies, pages, top), best[0])

    def test_nothing_handed_in_is_changed_and_the_answer_stays(self):
        draw = random.Random(33)
        tallies = drawn_tallies(draw, 9, 8, 20)
        handed = list(tallies)
        for rule, key in RULES:
            first = rule.choose(handed, 8, 20)
            ahead = [rule.goes_ahead(one, other, 8, 20) for one in tallies for other in tallies]
            for times in range(3):
                self.assertEqual(rule.choose(handed, 8, 20), first)
                self.assertEqual(
                    [rule.goes_ahead(one, other, 8, 20) for one in tallies for other in tallies], ahead)
            self.assertEqual(handed, tallies)
            self.assertIs(first.__class__, int)

    def test_a_rule_of_the_askers_own_chooses_by_what_goes_ahead(self):
        class FarFewer(Rule):
            """Goes ahead with at least two live pages fewer; and every tally ahead of itself."""

            def goes_ahead(self, one, other, pages, now):
                return one == other or one[1] + 2 <= other[1]
        # Block 3 has fewer than block 2, but not by two: block 2 is the first ahead of which none goes.
        self.assertEqual(FarFewer().choose([(1, 4, 0, 0), (2, 2, 0, 0), (3, 1, 0, 0)], 4, 1), 2)
        self.assertEqual(FarFewer().choose([(1, 4, 0, 0), (2, 3, 0, 0), (3, 1, 0, 0)], 4, 1), 3)


if __name__ == "__main__":
    unittest.main()
