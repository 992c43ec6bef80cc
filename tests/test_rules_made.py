"""Points 35 to 38: rules that are made of other rules or of numbers."""

import random
import unittest

from tests.helper import HUGE, NOT_WHOLE, drawn_tallies, refusal_of, truths_of
from wornpages.errors import NoRule
from wornpages.rules import Eldest, Fewest, Follow, Order, Rule, Turned, Weighed, Window, Worth


class NeverChoosing(Fewest):
    """A rule that is asked for two tallies alone."""

    def choose(self, tallies, pages, now):
        raise AssertionError("asked to choose")


def turned(rule, times):
    for time in range(times):
        rule = Turned(rule)
    return rule


class TurnedRules(unittest.TestCase):
    def test_once(self):
        one, other = (0, 1, 0, 8), (1, 2, 0, 3)
        for rule, told in [
            (Rule(), (False, False)), (Fewest(), (False, True)), (Eldest(), (True, False)),
            (Worth(), truths_of(Worth(), other, one, 4, 9)), (Weighed(lambda tally: tally[0]), (False, True)),
            (Window(1), (False, True)), (Follow([1]), (False, False)), (Order([Rule(), Fewest()]), (False, True)),
        ]:
            self.assertEqual(truths_of(Turned(rule), one, other, 4, 9), told)
            self.assertEqual(truths_of(Turned(rule), one, one, 4, 9), (False, False))

    def test_worth_is_handed_pages_and_now(self):
        one, other = (0, 1, 0, 4), (1, 0, 0, 6)
        for pages, now in [(2, 10), (16, 10), (2, 100), (16, 100), (16, 7)]:
            self.assertEqual(truths_of(Turned(Worth()), one, other, pages, now),
                             truths_of(Worth(), other, one, pages, now))

    def test_it_chooses_the_other_end(self):
        tallies = [(2, 3, 4, 15), (5, 1, 6, 17), (7, 2, 0, 1), (11, 3, 1, 0)]
        self.assertEqual(Turned(Fewest()).choose(tallies, 4, 20), 2)
        self.assertEqual(Turned(Eldest()).choose(tallies, 4, 20), 5)
        self.assertEqual(Turned(Rule()).choose(tallies, 4, 20), 2)

    def test_up_to_ten_times(self):
        tallies = [(2, 3, 4, 15), (5, 1, 6, 17), (7, 3, 0, 1)]
        for times in range(11):
            rule = turned(Fewest(), times)
            self.assertEqual(rule.choose(tallies, 4, 20), 5 if times % 2 == 0 else 2)
            self.assertEqual(truths_of(rule, tallies[0], tallies[1], 4, 20), (times % 2 == 1, times % 2 == 0))

    def test_two_tallies_alone_are_asked(self):
        tallies = [(2, 3, 4, 15), (5, 1, 6, 17)]
        self.assertEqual(Turned(NeverChoosing()).choose(tallies, 4, 20), 2)
        self.assertEqual(turned(NeverChoosing(), 10).choose(tallies, 4, 20), 5)

    def test_a_rule_that_follows_is_not_used_up(self):
        rule = Follow([5, 5])
        for times in range(3):
            self.assertEqual(Turned(rule).choose([(2, 0, 0, 0), (5, 0, 0, 0)], 4, 20), 2)
        self.assertEqual(rule.choose([(2, 0, 0, 0), (5, 0, 0, 0)], 4, 20), 5)


class Orders(unittest.TestCase):
    def test_the_first_rule_that_parts_tells(self):
        one, other = (0, 1, 7, 8), (1, 2, 7, 3)
        by_cleared = Weighed(lambda tally: tally[2])
        for rules, told in [
            ([Fewest()], (True, False)), ([Eldest()], (False, True)), ([Rule()], (False, False)),
            ([Fewest(), Eldest()], (True, False)), ([Eldest(), Fewest()], (False, True)),
            ([by_cleared, Eldest()], (False, True)), ([by_cleared, Rule(), Fewest()], (True, False)),
            ([Rule(), by_cleared], (False, False)), ([Turned(Fewest()), Fewest()], (False, True)),
            ([Rule()] * 7 + [Fewest()], (True, False)), ([Rule()] * 7 + [Eldest()], (False, True)),
            ([Follow([1]), Window(3), Eldest()], (True, False)),
        ]:
            self.assertEqual(truths_of(Order(rules), one, other, 4, 9), told)
            self.assertEqual(truths_of(Order(rules), one, one, 4, 9), (False, False))

    def test_pages_and_now_are_handed_on(self):
        one, other = (0, 1, 0, 4), (1, 0, 0, 6)
        for pages, now in [(2, 10), (16, 10), (2, 100), (16, 7)]:
            self.assertEqual(truths_of(Order([Rule(), Worth()]), one, other, pages, now),
                             truths_of(Worth(), one, other, pages, now))

    def test_of_equals_the_next_rule_and_then_the_least_block(self):
        tallies = [(2, 3, 4, 15), (5, 1, 6, 17), (7, 1, 0, 1), (11, 1, 1, 1)]
        self.assertEqual(Order([Fewest()]).choose(tallies, 4, 20), 5)
        self.assertEqual(Order([Fewest(), Eldest()]).choose(tallies, 4, 20), 7)
        self.assertEqual(Order([Fewest(), Turned(Eldest())]).choose(tallies, 4, 20), 5)
        self.assertEqual(Order([Turned(Fewest()), Eldest()]).choose(tallies, 4, 20), 2)

    def test_drawn_orders(self):
        draw = random.Random(36)
        keys = [lambda t: 0, lambda t: t[1], lambda t: -t[1], lambda t: t[2], lambda t: -t[2], lambda t: t[3]]
        rules = [Rule(), Fewest(), Turned(Fewest()), Weighed(lambda t: t[2]), Turned(Weighed(lambda t: t[2])), Eldest()]
        for times in range(200):
            picks = [draw.randrange(6) for pick in range(draw.randint(1, 8))]
            tallies = drawn_tallies(draw, draw.randint(1, 16), 3, 4)
            order = Order([rules[pick] for pick in picks])

            def key(tally):
                return [keys[pick](tally) for pick in picks]
            self.assertEqual(order.choose(tallies, 3, 4), min(tallies, key=lambda t: (key(t), t[0]))[0])
            for other in tallies:
                self.assertEqual(truths_of(order, tallies[0], other, 3, 4),
                                 (key(tallies[0]) < key(other), key(other) < key(tallies[0])))

    def test_one_to_eight_rules(self):
        for count in range(1, 9):
            self.assertIs(Order([Fewest()] * count).__class__, Order)
        for count in [0, 9, 10, 40]:
            self.assertIs(refusal_of(Order, [Fewest()] * count).__class__, NoRule)

    def test_the_list_changed_behind(self):
        one, other = (0, 1, 7, 8), (1, 2, 7, 3)
        rules = [Rule(), Fewest()]
        order = Order(rules)
        rules[1] = Eldest()
        rules.insert(0, Eldest())
        self.assertEqual(truths_of(order, one, other, 4, 9), (True, False))
        rules.clear()
        self.assertEqual(truths_of(order, one, other, 4, 9), (True, False))

    def test_the_list_handed_in_stays(self):
        rules = [Fewest(), Eldest()]
        handed = list(rules)
        Order(handed).choose([(0, 1, 7, 8), (1, 2, 7, 3)], 4, 9)
        self.assertEqual(handed, rules)

    def test_two_tallies_alone_are_asked(self):
        follow = Follow([5, 5])
        order = Order([NeverChoosing(), follow, Turned(NeverChoosing())])
        tallies = [(2, 3, 4, 15), (5, 1, 6, 17)]
        self.assertEqual(order.choose(tallies, 4, 20), 5)
        self.assertEqual([follow.choose(tallies, 4, 20) for times in range(3)], [5, 5, 2])

    def test_asked_again(self):
        order = Order([Fewest(), Eldest()])
        tallies = [(2, 3, 4, 15), (5, 1, 6, 17), (7, 1, 0, 1)]
        self.assertEqual([order.choose(tallies, 4, 20) for times in range(4)], [7] * 4)
        self.assertEqual(tallies, [(2, 3, 4, 15), (5, 1, 6, 17), (7, 1, 0, 1)])


class Windows(unittest.TestCase):
    TALLIES = [(1, 3, 0, 6), (2, 0, 0, 9), (4, 2, 0, 6), (5, 1, 0, 8), (8, 4, 0, 2), (9, 2, 0, 6)]

    def test_every_many(self):
        # By born: 8, then 1, 4 and 9 of like born, then 5, then 2.
        told = [Window(many).choose(self.TALLIES, 4, 10) for many in range(1, 17)]
        self.assertEqual(told, [8, 1, 4, 4, 5] + [2] * 11)

    def test_what_is_no_many(self):
        for many in [0, 17, -1, 18, 100, 10 ** 40, -10 ** 40, HUGE, -HUGE] + NOT_WHOLE:
            self.assertIs(refusal_of(Window, many).__class__, NoRule)

    def test_like_born(self):
        tallies = [(block, 15 - block, 0, 3) for block in range(16)]
        for many in range(1, 17):
            self.assertEqual(Window(many).choose(tallies, 16, 10), many - 1)

    def test_of_equals_the_least_block(self):
        # The one of higher born has the lesser block; both are looked at.
        tallies = [(3, 2, 0, 7), (6, 2, 0, 1), (7, 0, 0, 9)]
        self.assertEqual(Window(1).choose(tallies, 4, 10), 6)
        self.assertEqual(Window(2).choose(tallies, 4, 10), 3)
        self.assertEqual(Window(3).choose(tallies, 4, 10), 7)

    def test_fewer_tallies_than_many(self):
        for count in range(1, 7):
            for many in range(count, 17):
                tallies = self.TALLIES[:count]
                self.assertEqual(Window(many).choose(tallies, 4, 10), Fewest().choose(tallies, 4, 10))

    def test_for_two_tallies_it_is_fewest(self):
        for many in [1, 2, 16]:
            for one in self.TALLIES:
                for other in self.TALLIES:
                    self.assertEqual(truths_of(Window(many), one, other, 4, 10),
                                     truths_of(Fewest(), one, other, 4, 10))

    def test_drawn_windows(self):
        draw = random.Random(37)
        for times in range(400):
            tallies = drawn_tallies(draw, draw.randint(1, 16), 3, draw.choice([2, 6, 10 ** 30]))
            many = draw.randint(1, 16)
            handed = list(tallies)
            seen = sorted(tallies, key=lambda tally: (tally[3], tally[0]))[:many]
            best = min(seen, key=lambda tally: (tally[1], tally[0]))
            rule = Window(many)
            self.assertEqual([rule.choose(handed, 3, 10 ** 30) for again in range(2)], [best[0]] * 2)
            self.assertEqual(handed, tallies)

    def test_under_fewest(self):
        self.assertIsInstance(Window(3), Fewest)


class Follows(unittest.TestCase):
    TALLIES = [(1, 3, 0, 6), (2, 0, 0, 9), (4, 2, 0, 6)]

    def told(self, rule, times):
        return [rule.choose(self.TALLIES, 4, 10) for time in range(times)]

    def test_a_list_used_up(self):
        self.assertEqual(self.told(Follow([4, 2, 1, 2]), 7), [4, 2, 1, 2, 1, 1, 1])
        self.assertEqual(self.told(Follow([2]), 3), [2, 1, 1])
        self.assertEqual(self.told(Follow([]), 3), [1, 1, 1])

    def test_a_number_that_is_no_block_is_used_up_too(self):
        self.assertEqual(self.told(Follow([3, 4, -1, 2, 99, 10 ** 40, 0, 4]), 10), [1, 4, 1, 2, 1, 1, 1, 4, 1, 1])

    def test_other_tallies_each_time(self):
        rule = Follow([4, 4, 2, 9])
        told = [rule.choose(tallies, 4, 10) for tallies in [
            [(0, 0, 0, 0), (4, 0, 0, 0)], [(3, 0, 0, 0)], [(2, 0, 0, 0), (7, 0, 0, 0)], [(5, 0, 0, 0), (9, 4, 0, 0)],
            [(6, 0, 0, 0), (9, 0, 0, 0)],
        ]]
        self.assertEqual(told, [4, 3, 2, 9, 6])

    def test_the_list_changed_behind(self):
        blocks = [4, 2]
        rule = Follow(blocks)
        blocks[0] = 1
        blocks.append(4)
        self.assertEqual(self.told(rule, 1), [4])
        blocks.clear()
        self.assertEqual(self.told(rule, 2), [2, 1])

    def test_the_list_handed_in_stays(self):
        blocks = [4, 2]
        self.told(Follow(blocks), 5)
        self.assertEqual(blocks, [4, 2])
        self.assertEqual(self.TALLIES, [(1, 3, 0, 6), (2, 0, 0, 9), (4, 2, 0, 6)])

    def test_two_rules_of_one_list(self):
        blocks = [4, 2]
        one, other = Follow(blocks), Follow(blocks)
        self.assertEqual(self.told(one, 1), [4])
        self.assertEqual(self.told(other, 3), [4, 2, 1])
        self.assertEqual(self.told(one, 2), [2, 1])

    def test_asked_for_two_tallies(self):
        rule = Follow([4, 2])
        for times in range(5):
            for one in self.TALLIES:
                for other in self.TALLIES:
                    self.assertEqual(truths_of(rule, one, other, 4, 10), (False, False))
        self.assertEqual(self.told(rule, 3), [4, 2, 1])


if __name__ == "__main__":
    unittest.main()
