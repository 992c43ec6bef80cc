"""Points 101 to 103: new stores and rules, the asks of a store, and its power."""

import random
import unittest

from tests.helper import desk_told, refusal_of
from wornpages.chip import Chip
from wornpages.desk import Desk
from wornpages.errors import (BlockFailed, Full, NoChip, NoPart, NoRow, NoRule, NoSheet, NoTerms, NoValue, PowerGone,
                              WornOut)
from wornpages.rules import Eldest, Fewest, Follow, Order, Rule, Turned, Window, Worth
from wornpages.sure import Sure
from wornpages.terms import Terms

NEW = "new 5 3 8 7 1 2 1000"


def drawn_rows(seed, many=120):
    """Writings and some givings up, drawn by chance, for a store of eight sheets."""
    draw = random.Random(seed)
    rows = []
    for turn in range(many):
        rows.append(draw.choice([f"write {draw.choice([0, 1, 1, 2, 3, 4, 5, 6])} {draw.randrange(99)}"] * 9
                                + [f"give {draw.randrange(7)}"]))
    return rows


def told_by_hand(store, row):
    """What a store answers to a row of drawn_rows."""
    words = row.split(" ")
    numbers = [int(word) for word in words[1:]]
    return str(store.write(*numbers) if words[0] == "write" else store.give_up(numbers))


def told_by_rule(rule, seed):
    """What is answered to drawn rows, one after the other, by a store with this rule."""
    store = Sure(Chip(5, 3, 1000), Terms(5, 3, 8, 7, 1, 2), rule)
    return [told_by_hand(store, row) for row in drawn_rows(seed)]


SINGLE = [("plain", Rule), ("fewest", Fewest), ("eldest", Eldest), ("worth", Worth)]

RULES = SINGLE + [
    ("window 1", lambda: Window(1)), ("window 2", lambda: Window(2)), ("window 16", lambda: Window(16)),
    ("follow", lambda: Follow([])), ("follow 3", lambda: Follow([3])),
    ("follow 2 1 4 0 3 2 99 1 3 4 2", lambda: Follow([2, 1, 4, 0, 3, 2, 99, 1, 3, 4, 2])),
    ("order worth", lambda: Order([Worth()])), ("order plain eldest", lambda: Order([Rule(), Eldest()])),
    ("order fewest worth", lambda: Order([Fewest(), Worth()])),
    ("order worth fewest", lambda: Order([Worth(), Fewest()])),
    ("order eldest plain fewest worth worth plain plain eldest", lambda: Order([Eldest()])),
    ("turned plain", lambda: Turned(Rule())), ("turned fewest", lambda: Turned(Fewest())),
    ("turned eldest", lambda: Turned(Eldest())), ("turned worth", lambda: Turned(Worth())),
    ("turned window 1", lambda: Turned(Window(1))), ("turned follow 1 2 3", lambda: Turned(Follow([1, 2, 3]))),
    ("turned order fewest eldest", lambda: Turned(Order([Fewest(), Eldest()]))),
    ("turned turned eldest", Eldest), ("turned turned turned eldest", lambda: Turned(Eldest())),
    ("turned " * 9 + "worth", lambda: Turned(Worth())), ("turned " * 10 + "worth", Worth),
]


class NewStores(unittest.TestCase):
    def refused(self, desk, row, error):
        self.assertIs(refusal_of(desk.say, row).__class__, error, row)

    def test_what_is_taken(self):
        desk = Desk()
        self.assertEqual(desk.say("new 5 3 8 7 1 2 1000 4:9 2:0"), "ok")
        store = desk.store
        self.assertIs(store.__class__, Sure)
        self.assertEqual((store.chip.blocks, store.chip.pages, store.chip.most), (5, 3, 1000))
        terms = store.terms
        self.assertEqual((terms.blocks, terms.pages, terms.sheets, terms.share, terms.ill, terms.spread),
                         (5, 3, 8, 7, 1, 2))
        self.assertEqual((store.chip.deeds(), store.papers, store.rule.__class__), ([], [], Fewest))

    def test_the_ills_of_the_chip(self):
        desk = desk_told("new 5 3 8 7 1 2 1000 0:2 4:0")
        answers = [desk.say(f"write {sheet} {sheet}") for sheet in range(3)]
        # Block 0 does two deeds well.
        self.assertEqual((answers, desk.say("failed")), (["0", "1", "3"], "0"))

    def test_most(self):
        for most in [0, 1, 2]:
            desk = desk_told(f"new 3 2 5 2 0 9 {most}")
            while refusal_of(desk.say, "write 0 1") is None:
                pass
            self.assertIn(str(most), desk.say("wear").split(" "))
            self.assertLessEqual(max(desk.say("wear").split(" ")), str(most))

    def test_no_chip_ahead_of_no_terms(self):
        desk = Desk()
        for row in ["new 1 3 8 7 1 2 1000", "new 17 3 8 7 1 2 1000", "new 5 0 8 7 1 2 1000", "new 5 17 8 7 1 2 1000",
                    "new 5 3 8 7 1 2 1000001", "new 5 3 8 7 1 2 1000 5:1", "new 5 3 8 7 1 2 1000 1:1000001",
                    "new 5 3 8 7 1 2 1000 1:2 1:3", "new 5 3 8 7 1 2 1000 1:2 0:1 1:2"]:
            self.refused(desk, row, NoChip)
            self.refused(desk, row.replace(" 8 7 ", " 0 0 "), NoChip)
        for row in ["new 5 3 0 7 1 2 1000", "new 5 3 65 7 1 2 1000", "new 5 3 8 0 1 2 1000", "new 5 3 8 8 1 2 1000",
                    "new 5 3 8 7 4 2 1000", "new 5 3 8 7 1 0 1000", "new 5 3 8 7 1 1000001 1000", "new 2 2 8 1 0 1 9"]:
            self.refused(desk, row, NoTerms)
        for row in ["new 2 3 1 1 0 1 0", "new 16 16 64 238 0 1000000 1000000", "new 16 16 64 1 14 1 0",
                    "new 5 3 8 7 1 2 1000 0:0 1:1000000 2:1 3:2 4:3"]:
            self.assertEqual(desk.say(row), "ok")

    def test_what_was_before_is_gone(self):
        desk = desk_told(NEW, "parts red 2 2", "write 0 5", "in red write 1 6", "cut 0")
        self.assertEqual(desk.say(NEW), "ok")
        self.assertEqual([desk.say(row) for row in ["held", "read 0", "rooms", "moves", "wear", "write 3 1"]],
                         ["none", "none", "0", "0", "0 0 0 0 0", "0"])
        self.refused(desk, "in red held", NoPart)
        self.refused(desk, "shift red red 1", NoPart)

    def test_what_a_refused_new_leaves(self):
        desk = desk_told(NEW, "parts red 2 2", "write 0 5", "rule eldest")
        for turn in range(20):
            desk.say(f"write 3 {turn}")
        asked = ["held", "read 0", "rooms", "moves", "wear", "in red held", "in red room"]
        before = [desk.say(row) for row in asked]
        store = desk.store
        for row, error in [("new 1 3 8 7 1 2 1000", NoChip), ("new 5 3 8 8 1 2 1000", NoTerms),
                           ("new 5 3 8 7 1 2 1000 9:1", NoChip), ("new 5 3", NoRow)]:
            self.refused(desk, row, error)
            self.assertEqual([desk.say(row) for row in asked], before)
            self.assertIs(desk.store, store)
        # A cut goes on too.
        desk.say("cut 0")
        self.refused(desk, "new 1 3 8 7 1 2 1000", NoChip)
        self.refused(desk, "read 0", PowerGone)


class Rules(unittest.TestCase):
    def told(self, desk, seed):
        return [desk.say(row) for row in drawn_rows(seed)]

    def test_fewest_until_another_one_is_told(self):
        for seed in range(3):
            self.assertEqual(self.told(desk_told(NEW), seed), told_by_rule(Fewest(), seed))

    def test_each_form(self):
        for words, rule in RULES:
            for seed in range(3):
                due = told_by_rule(rule(), seed)
                self.assertEqual(self.told(desk_told(NEW, f"rule {words}"), seed), due, words)
                self.assertEqual(self.told(desk_told(f"rule {words}", NEW), seed), due, words)

    def test_the_rules_differ_in_these_rows(self):
        told = [tuple(told_by_rule(rule(), 0)) for words, rule in SINGLE]
        self.assertEqual(len(set(told)), 4)
        self.assertNotEqual(told_by_rule(Window(1), 0), told_by_rule(Window(2), 0))
        self.assertNotEqual(told_by_rule(Turned(Worth()), 0), told_by_rule(Worth(), 0))

    def test_answers(self):
        for words, rule in RULES:
            self.assertEqual(Desk().say(f"rule {words}"), "ok")
            self.assertEqual(desk_told(NEW).say(f"rule {words}"), "ok")

    def test_it_stays_when_a_new_store_is_taken(self):
        desk = desk_told("rule turned worth", NEW)
        for turn in range(3):
            self.assertEqual(self.told(desk, 1), told_by_rule(Turned(Worth()), 1))
            desk.say(NEW)

    def test_told_in_the_midst(self):
        for first, then, words in [(Fewest, Eldest, "eldest"), (Fewest, lambda: Turned(Fewest()), "turned fewest")]:
            desk = desk_told(NEW)
            store = Sure(Chip(5, 3, 1000), Terms(5, 3, 8, 7, 1, 2), first())
            for turn, row in enumerate(drawn_rows(4)):
                if turn == 60:
                    desk.say(f"rule {words}")
                    store.take(then())
                self.assertEqual(desk.say(row), told_by_hand(store, row))
            self.assertEqual(desk.say("rooms"), str(len(store.papers)))

    def test_made_anew_for_each_store(self):
        words = "follow 2 1 4 0 3 2 1 3"
        numbers = [2, 1, 4, 0, 3, 2, 1, 3]
        desk = desk_told(NEW, f"rule {words}")
        for turn in range(2):
            self.assertEqual(self.told(desk, 2), told_by_rule(Follow(numbers), 2))
            self.assertEqual(desk.say(NEW), "ok")

    def told_around(self, row, anew):
        """What a desk answers that is told a row when its rule has used up three numbers, and what a store answers
        whose rule is made anew then, or not."""
        numbers = [1, 3, 0, 2, 1, 3, 3, 0, 2]
        desk = desk_told(NEW, "rule follow 1 3 0 2 1 3 3 0 2")
        store = Sure(Chip(5, 3, 1000), Terms(5, 3, 8, 7, 1, 2), Follow(numbers))
        answers = []
        due = []
        between = False
        for asked in drawn_rows(7):
            if store.rule.used == 3 and not between:
                between = True
                refusal_of(desk.say, row)
                store.take(Follow(numbers) if anew else store.rule)
            answers.append(desk.say(asked))
            due.append(told_by_hand(store, asked))
        self.assertIs(between, True)
        return answers, due

    def test_made_anew_when_it_is_told_again_and_when_a_store_comes_up(self):
        for row, anew in [("rule follow 1 3 0 2 1 3 3 0 2", True), ("up", True), ("on", False), ("write 9 9", False),
                          ("race 3 2 0 1 1 1 0 0", False), ("rule window 0", False), ("rule x", False)]:
            answers, due = self.told_around(row, anew)
            self.assertEqual(answers, due, row)
            answers, due = self.told_around(row, not anew)
            self.assertNotEqual(answers, due, row)

    def test_no_rows(self):
        for words in ["", " x", " Plain", " plain plain", " fewest 1", " window", " window x", " window 1 2",
                      " window -1", " follow x", " follow 1 x", " follow 01", " order x", " order plain x",
                      " order window 1", " order order plain", " order turned plain", " order follow",
                      " order plain 1", " turned", " turned turned", " turned x", " turned window",
                      " turned plain turned", " turned 3 plain", " turned order window 3", " rule plain", " weighed",
                      " 1", " turned" * 11 + " plain", " turned" * 11 + " window 0", " turned" * 12 + " worth",
                      " turned" * 11, " turned" * 10, " turned" * 40 + " plain"]:
            self.left_alone(f"rule{words}", NoRow)

    def test_no_rules(self):
        for words in ["window 0", "window 17", "window 1000", "order", "order" + " plain" * 9, "order" + " worth" * 20,
                      "turned window 0", "turned window 17", "turned order", "turned order" + " eldest" * 9,
                      "turned " * 10 + "order"]:
            self.left_alone(f"rule {words}", NoRule)

    def test_no_row_ahead_of_no_rule(self):
        self.left_alone("rule order" + " plain" * 9 + " x", NoRow)
        self.left_alone("rule window 0 0", NoRow)
        self.left_alone("rule " + "turned " * 11 + "order", NoRow)

    def left_alone(self, row, error):
        """Refused, with the rule as it was, for the store that there is and for the next one."""
        desk = desk_told("rule turned eldest", NEW)
        self.assertIs(refusal_of(desk.say, row).__class__, error, row)
        rule = desk.store.rule
        self.assertEqual((rule.__class__, rule.inner.__class__), (Turned, Eldest))
        desk.say(NEW)
        self.assertEqual((desk.store.rule.__class__, desk.store.rule.inner.__class__), (Turned, Eldest))
        self.assertIs(refusal_of(Desk().say, row).__class__, error, row)


class Asks(unittest.TestCase):
    def say(self, desk, row, due):
        self.assertEqual(desk.say(row), due, row)

    def test_write_read_give_held(self):
        desk = desk_told(NEW)
        for row, due in [("held", "none"), ("read 0", "none"), ("write 5 70", "0"), ("write 0 0", "1"),
                         (f"write 7 {10 ** 30 - 1}", "2"), ("write 5 71", "3"), ("read 5", "71"), ("read 0", "0"),
                         ("read 7", "9" * 30), ("read 6", "none"), ("held", "0 5 7"), ("give", "0"), ("give 6 6", "0"),
                         ("give 7 6 5 7", "2"), ("held", "0"), ("read 5", "none"), ("give 0", "1"), ("held", "none")]:
            self.say(desk, row, due)

    def test_refusals(self):
        desk = desk_told("new 3 2 5 2 0 9 100", "write 0 1", "write 1 2")
        for row, error in [("write 5 1", NoSheet), (f"write 0 {10 ** 30}", NoValue), ("write 2 1", Full),
                           ("read 5", NoSheet),
                           ("give 0 5", NoSheet), (f"write 5 {10 ** 30}", NoSheet), (f"write 2 {10 ** 30}", NoValue)]:
            self.assertIs(refusal_of(desk.say, row).__class__, error)
        self.say(desk, "held", "0 1")

    def test_failed(self):
        desk = desk_told("new 5 3 8 1 2 9 1000 2:0 0:3")
        # At the seventh writing block 0 fails when it is wiped, and block 2 at its first page.
        for row, due in [("failed", "none"), ("write 0 1", "0"), ("write 0 2", "1"), ("write 0 3", "2"),
                         ("write 0 4", "3"), ("write 0 5", "4"), ("write 0 6", "5"), ("failed", "none"),
                         ("write 0 7", "9"), ("failed", "0 2"), ("read 0", "7")]:
            self.say(desk, row, due)

    def test_wear_moves_and_rooms(self):
        desk = desk_told(NEW)
        store = Sure(Chip(5, 3, 1000), Terms(5, 3, 8, 7, 1, 2), Fewest())
        for row in drawn_rows(5):
            self.assertEqual(desk.say(row), told_by_hand(store, row))
            self.say(desk, "wear", " ".join(str(store.chip.cleared(block)) for block in range(5)))
            self.say(desk, "moves", str(sum(len(paper[3]) for paper in store.papers)))
            self.say(desk, "rooms", str(len(store.papers)))
            self.say(desk, "held", " ".join(map(str, store.held())) or "none")
        self.assertGreater(int(desk.say("moves")), 5)
        self.assertGreater(int(desk.say("rooms")), int(desk.say("moves")) // 3)

    def test_moves_that_gave_no_paper_are_not_told(self):
        desk = desk_told("new 3 2 5 2 0 9 100", "write 0 1", "write 1 2", "write 0 3", "write 0 4", "cut 1")
        self.assertIs(refusal_of(desk.say, "write 1 5").__class__, PowerGone)
        for row in ["moves", "rooms"]:
            self.say(desk, row, "0")
        desk.say("on")
        # What was moved is dead where it lay, so the making that follows moves nothing.
        self.say(desk, "write 1 5", "5")
        self.assertEqual([desk.say(row) for row in ["moves", "rooms", "wear"]], ["0", "1", "1 0 0"])

    def test_a_worn_store(self):
        desk = desk_told("new 3 2 5 2 0 9 100 1:0 2:0", "write 0 5", "write 0 6")
        for row in ["write 0 7", "give 0"]:
            self.assertIs(refusal_of(desk.say, row).__class__, WornOut)
        for row, due in [("read 0", "6"), ("held", "0"), ("give 1", "0"), ("failed", "1"), ("wear", "0 0 0"),
                         ("up", "ok"),
                         ("read 0", "6")]:
            self.say(desk, row, due)
        self.assertIs(refusal_of(desk.say, "write 0 7").__class__, WornOut)

    def test_no_refusal_of_a_block_comes_through(self):
        desk = desk_told("new 5 3 8 7 1 2 1000 1:7")
        refusals = [refusal_of(desk.say, row).__class__ for row in drawn_rows(9)]
        self.assertNotIn(BlockFailed, refusals)
        self.assertEqual(desk.say("failed"), "1")


class Power(unittest.TestCase):
    def test_cut(self):
        desk = desk_told(NEW)
        self.assertEqual(desk.say("cut 2"), "ok")
        self.assertEqual([desk.say("write 0 5"), desk.say("write 1 6")], ["0", "1"])
        self.assertIs(refusal_of(desk.say, "read 0").__class__, PowerGone)
        self.assertIs(refusal_of(desk.say, "write 0 7").__class__, PowerGone)
        # The newer word holds alone, and told in the dark it gives power again.
        self.assertEqual([desk.say(row) for row in ["cut 1", "read 0", "write 0 8"]], ["ok", "5", "2"])
        self.assertIs(refusal_of(desk.say, "read 0").__class__, PowerGone)
        self.assertEqual([desk.say(row) for row in ["cut 1000000", "read 0"]], ["ok", "8"])

    def test_cut_out_of_its_bounds(self):
        desk = desk_told(NEW, "write 0 5", "cut 1")
        self.assertIs(refusal_of(desk.say, "cut 1000001").__class__, NoValue)
        self.assertEqual(desk.say("write 0 6"), "1")
        self.assertIs(refusal_of(desk.say, "read 0").__class__, PowerGone)
        self.assertIs(refusal_of(desk.say, "cut 1000001").__class__, NoValue)
        self.assertIs(refusal_of(desk.say, "read 0").__class__, PowerGone)

    def test_on_and_the_store_is_used_on(self):
        desk = desk_told(NEW, "rule follow 1 0 2", *drawn_rows(2))
        rooms = desk.say("rooms")
        store = desk.store
        rule = store.rule
        desk.say("cut 0")
        self.assertEqual((desk.say("on"), desk.say("rooms")), ("ok", rooms))
        self.assertNotEqual(rooms, "0")
        self.assertEqual((desk.store, desk.store.rule), (store, rule))
        for turn in range(30):
            desk.say("write 0 1")

    def test_up_and_the_papers_begin_anew(self):
        desk = desk_told(NEW, "rule worth", *drawn_rows(2))
        asked = ["held", "wear", "failed"] + [f"read {sheet}" for sheet in range(8)]
        before = [desk.say(row) for row in asked]
        terms = desk.store.terms
        desk.say("cut 0")
        self.assertEqual(desk.say("up"), "ok")
        self.assertEqual([desk.say(row) for row in ["rooms", "moves"]], ["0", "0"])
        self.assertEqual([desk.say(row) for row in asked], before)
        self.assertIs(desk.store.__class__, Sure)
        self.assertIs(desk.store.terms, terms)
        self.assertIs(desk.store.rule.__class__, Worth)

    def test_up_puts_the_power_on_without_end(self):
        for row in ["up", "on"]:
            desk = desk_told(NEW, "cut 1", "write 0 5", row)
            for turn in range(30):
                desk.say("write 0 6")
            desk = desk_told(NEW, "cut 3", row)
            for turn in range(30):
                desk.say("write 0 6")

    def test_up_goes_on_as_the_one_before(self):
        for seed in range(5):
            desk = desk_told(NEW)
            other = desk_told(NEW)
            for row in drawn_rows(seed):
                self.assertEqual(desk.say(row), other.say(row))
                self.assertEqual(desk.say("up"), "ok")
            self.assertEqual([desk.say(row) for row in ["held", "wear"]], [other.say(row) for row in ["held", "wear"]])


if __name__ == "__main__":
    unittest.main()
