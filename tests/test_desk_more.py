"""Points 104 to 106: look, race, and parts at a desk."""

import random
import unittest

from tests.helper import deeds_of, desk_told, drawn_race, refusal_of
from wornpages.desk import Desk
from wornpages.errors import Full, NoPart, NoRace, NoRow, NoSheet, NoValue, PowerGone, WornOut
from wornpages.races import least_moves, moves_by
from wornpages.rules import Eldest, Fewest, Follow, Order, Rule, Turned, Window, Worth

NEW = "new 5 3 20 7 1 2 1000"


class Checks(unittest.TestCase):
    def says(self, desk, rows):
        """Each row is answered so, or refused so."""
        for row, due in rows:
            if isinstance(due, str):
                self.assertEqual(desk.say(row), due, row)
            else:
                self.assertIs(refusal_of(desk.say, row).__class__, due, row)


class Looking(Checks):
    def looked_at(self):
        """Sheet 5 lies on page 2 (an older page of it is 0), sheet 6 on page 4; sheet 7, page 1, was given up by the
        roll on page 3."""
        return desk_told(NEW, "write 5 70", "write 7 71", "write 5 72", "give 7", "write 6 73")

    def test_each_sort(self):
        self.says(self.looked_at(), [
            ("look 5:2 6:4", "sound"), ("look 6:4 5:2", "sound"),
            ("look 5:2 6:4 5:2", "5 2 twice"), ("look 5:2 6:5", "6 5 nothing"), ("look 5:2 6:15", "6 15 nothing"),
            ("look 5:2 6:2", "6 2 other"), ("look 5:3 6:4", "5 3 other"), ("look 5:2 6:4 7:1", "7 1 gone"),
            ("look 5:0 6:4", "5 0 old"), ("look 5:2", "6 4 missing"), ("look", "5 2 missing; 6 4 missing"),
            ("look 6:4", "5 2 missing"), ("look 63:0 6:4 5:2", "63 0 other"), ("look 5:2 6:4 63:14", "63 14 nothing"),
        ])

    def test_several_faults(self):
        self.says(self.looked_at(), [
            ("look 7:1 5:0 5:2 0:99 8:4", "7 1 gone; 5 0 old; 5 2 twice; 0 99 nothing; 8 4 other; 6 4 missing"),
        ])

    def test_on_a_store_that_holds_nothing(self):
        self.says(desk_told(NEW), [("look", "sound"), ("look 0:0", "0 0 nothing")])

    def test_refusals(self):
        desk = self.looked_at()
        for dark in [False, True]:
            self.says(desk, [("look 64:0", NoSheet), ("look 5:2 6:4 64:0", NoSheet), ("look 5:2 5:2 100:1 x", NoRow)])
            desk.say("cut 0")
        self.says(desk, [("look", PowerGone), ("look 5:2 6:4", PowerGone), ("look 63:0", PowerGone), ("on", "ok"),
                         ("look 5:2 6:4", "sound")])

    def test_sheets_beyond_the_terms(self):
        self.says(self.looked_at(), [("look 5:2 6:4 20:0", "20 0 other"), ("look 5:2 6:4 63:99", "63 99 nothing")])

    def test_nothing_is_done_by_it(self):
        desk = self.looked_at()
        self.assertEqual(deeds_of(desk.store.chip, desk.say, "look 5:0"), [])


RULES = [("plain", Rule), ("fewest", Fewest), ("eldest", Eldest), ("worth", Worth), ("window 2", lambda: Window(2)),
         ("turned fewest", lambda: Turned(Fewest())), ("follow 1 0 2 1", lambda: Follow([1, 0, 2, 1])),
         ("order eldest fewest", lambda: Order([Eldest(), Fewest()]))]


class Racing(Checks):
    def test_the_row_with_its_numbers(self):
        self.says(Desk(), [("race 3 2 0 1 1 1 0 0", "2 1"), ("race 3 2", "0 0"), ("race 2 3 9 9", "0 0"),
                           ("rule follow 1 0", "ok"), ("race 3 2 0 1 1 1 0 0", "1 1"), ("rule plain", "ok"),
                           ("race 3 3 0 1 2 2 2 2 0", "2 1")])

    def test_by_the_rule_of_the_desk(self):
        differ = 0
        for words, rule in RULES:
            for seed in range(25):
                blocks, pages, row = drawn_race(random.Random(seed))
                moves = moves_by(blocks, pages, row, rule())[0]
                least = least_moves(blocks, pages, row)[0]
                told = " ".join(map(str, ["race", blocks, pages] + row))
                for desk in [desk_told(f"rule {words}"), desk_told(NEW, f"rule {words}")]:
                    self.assertEqual(desk.say(told), f"{moves} {least}")
                differ += moves != least
        self.assertGreater(differ, 10)

    def test_the_rule_is_made_anew_for_each_race(self):
        desk = desk_told("rule follow 1 0 0 1")
        self.says(desk, [("race 3 2 0 1 1 1 0 0", "1 1")] * 3 + [(NEW, "ok")] + [("race 3 2 0 1 1 1 0 0", "1 1")] * 3)

    def test_it_has_nothing_to_do_with_the_store(self):
        desk = desk_told(NEW, "rule follow 3 2 1", "write 0 5")
        before = (desk.store, desk.store.rule, desk.store.book.tell(), desk.store.chip.deeds())
        desk.say("race 3 2 0 1 1 1 0 0")
        self.assertEqual((desk.store, desk.store.rule, desk.store.book.tell(), desk.store.chip.deeds()), before)
        self.assertEqual(desk.store.rule.used, 0)
        self.says(desk, [("cut 0", "ok"), ("race 3 2 0 1 1 1 0 0", "2 1")])

    def test_refusals(self):
        for desk in [Desk(), desk_told(NEW)]:
            self.says(desk, [("race 1 3", NoRace), ("race 5 3", NoRace), ("race 3 0", NoRace), ("race 3 4", NoRace),
                             ("race 2 2", NoRace), ("race 3 1", NoRace), ("race 3 2 64", NoRace),
                             ("race 3 2 0 1 2", NoRace), ("race 3 2" + " 0" * 11, NoRace),
                             ("race 3 2" + " 0" * 10, "0 0"),
                             ("race", NoRow), ("race 3", NoRow), ("race 3 2 x", NoRow)])


class PartRows(Checks):
    def laid(self, *rows):
        """A desk with the parts red (the store's sheets 0 to 3), blue (4 and 5) and green (6 to 10)."""
        return desk_told(NEW, "parts red 4 3 blue 2 2 green 5 2", *rows)

    def test_each_row(self):
        self.says(self.laid(), [
            ("in red held", "none"), ("in red room", "3"), ("in red read 0", "none"), ("in red write 3 70", "0"),
            ("in blue write 1 71", "1"), ("in green write 0 72", "2"), ("read 3", "70"), ("read 5", "71"),
            ("read 6", "72"),
            ("held", "3 5 6"), ("in red write 0 73", "3"), ("in red held", "0 3"), ("in red room", "1"),
            ("in blue held", "1"), ("in green held", "0"), ("in green read 0", "72"), ("in red give 1 3 3", "1"),
            ("in red give", "0"), ("in red held", "0"), ("in red write 1 1", "5"), ("in red empty", "2"),
            ("in red empty", "0"), ("in red room", "3"), ("held", "5 6"),
        ])

    def test_emptying_is_one_roll(self):
        desk = self.laid("in red write 0 1", "in red write 1 2", "in blue write 0 3")
        chip = desk.store.chip
        self.assertEqual(deeds_of(chip, desk.say, "in red empty"), [("put", 3, True)])
        self.assertEqual(deeds_of(chip, desk.say, "in red empty"), [])
        self.assertEqual(desk.say("held"), "4")

    def test_where_no_parts_are_laid(self):
        rows = ["in {} write 0 1", "in {} write 99 1", "in {} read 0", "in {} give", "in {} give 99", "in {} held",
                "in {} empty", "in {} room", "shift {} {} 1", "shift {} {} 0"]
        for desk in [desk_told(NEW), desk_told(NEW, "parts"), self.laid("parts"), self.laid(NEW)]:
            for name in ["red", "x", "RED", "0", "write", "in", "none", "1:2", "held", "-", "parts"]:
                for row in rows:
                    self.says(desk, [(row.replace("{}", name), NoPart)])

    def test_names_may_be_any_words(self):
        desk = desk_told(NEW, "parts in 1 1 write 1 1 held 1 1 new 2 1 abcdefgh 1 1")
        self.says(desk, [("in in write 0 5", "0"), ("in write read 0", "none"), ("in held held", "none"),
                         ("in new write 1 6", "1"), ("held", "0 4"), ("in write write 0 7", "2"), ("in in held", "0"),
                         ("in abcdefgh room", "1"), ("shift in new 1", Full), ("in room room", NoPart)])

    def test_refusals(self):
        desk = self.laid("in red write 0 1", "in red write 1 1", "in red write 2 1")
        self.says(desk, [
            ("in pink write 99 1", NoPart), ("in red write 4 1", NoSheet), (f"in red write 3 {10 ** 30}", NoValue),
            ("in red write 3 1", Full), ("in red read 4", NoSheet), ("in red give 0 4", NoSheet),
            ("in pink read 0", NoPart),
            ("in pink give", NoPart), ("in pink empty", NoPart), ("in pink held", NoPart), ("in pink room", NoPart),
            ("in red room", "0"), ("in red write 0 2", "3"), ("cut 0", "ok"), ("in red write 0 1", PowerGone),
            ("in red empty", PowerGone), ("in red write 3 1", Full), ("in red held", "0 1 2"),
        ])

    def test_on_a_worn_store(self):
        desk = desk_told("new 3 2 5 2 0 9 100 1:0", "parts a 2 1 b 2 1", "in a write 0 5", "in b write 1 6")
        self.says(desk, [("in a write 0 7", WornOut), ("in a empty", WornOut), ("in a write 1 7", Full),
                         ("in a read 0", "5"), ("in a give 1", "0"), ("in b held", "1"), ("in a room", "0"),
                         ("failed", "1")])

    def test_parts_that_are_refused_leave_those_that_there_were(self):
        desk = self.laid("in red write 0 5", "shift red blue 1")
        for row in ["parts red 21 1", "parts red 1 8", "parts red 1 1 red 1 1", "parts Red 1 1", "parts abcdefghi 1 1",
                    "parts red 0 1", "parts red 1 0", "parts r1 1 1", "parts red 10 1 blue 11 1",
                    "parts red 1 4 blue 1 4"]:
            self.says(desk, [(row, NoPart), ("in red held", "0"), ("in red room", "1"), ("in blue room", "3"),
                             ("in green room", "2")])

    def test_laid_in_the_place_of_others(self):
        desk = self.laid("in red write 0 5", "in blue write 1 6", "shift red blue 1")
        self.says(desk, [("parts tan 5 3 red 10 4", "ok"), ("in tan held", "0"), ("in red held", "0"),
                         ("in tan room", "2"),
                         ("in red room", "3"), ("in blue held", NoPart), ("in red read 0", "6"), ("parts", "ok"),
                         ("in tan held", NoPart), ("held", "0 5"), ("read 5", "6")])

    def test_laid_on_a_store_that_holds_sheets(self):
        desk = desk_told(NEW, "write 0 1", "write 1 1", "write 2 1", "write 19 1")
        self.says(desk, [("parts red 2 1 blue 2 2", "ok"), ("in red held", "0 1"), ("in red room", "0"),
                         ("in blue held", "0"), ("in blue room", "1"), ("in red write 1 2", "4"),
                         ("shift red blue 1", Full),
                         ("shift blue red 1", "ok"), ("in red room", "0"), ("in red give 0", "1"),
                         ("in red room", "1")])

    def test_shift(self):
        desk = self.laid()
        self.says(desk, [
            ("shift red blue 2", "ok"), ("in red room", "1"), ("in blue room", "4"), ("shift red blue 1", Full),
            ("shift red red 1", Full), ("shift blue blue 3", "ok"), ("in blue room", "4"), ("shift pink red 1", NoPart),
            ("shift red pink 1", NoPart), ("shift red blue 0", NoValue), ("shift pink blue 0", NoPart),
            ("in blue write 0 1", "0"), ("in blue write 1 1", "1"), ("shift blue green 3", Full),
            ("shift blue green 2", "ok"), ("in blue room", "0"), ("in green room", "4"), ("cut 0", "ok"),
            ("shift green red 3", "ok"), ("in green room", "1"), ("in red room", "4"),
        ])

    def test_laid_again_when_a_store_comes_up(self):
        desk = self.laid("in red write 0 5", "in blue write 1 6", "shift red blue 1", "in green write 4 7")
        for row in ["up", "cut 0", "up", "shift red green 1", "up"]:
            desk.say(row)
        self.says(desk, [("in red held", "0"), ("in red room", "0"), ("in blue room", "2"), ("in green room", "2"),
                         ("in blue read 1", "6"), ("in green read 4", "7"), ("in red write 1 1", Full),
                         ("in blue write 0 8", "3"), ("held", "0 4 5 10"), ("shift blue red 1", "ok"),
                         ("in red room", "1"),
                         ("in red write 1 9", "4"), ("read 1", "9")])

    def test_up_where_no_parts_are_laid(self):
        for desk in [desk_told(NEW), self.laid("parts"), self.laid(NEW)]:
            self.says(desk, [("up", "ok"), ("in red held", NoPart)])

    def test_they_are_laid_on_the_store_that_comes_up(self):
        desk = self.laid("in red write 0 5")
        before = desk.store
        desk.say("up")
        self.assertIsNot(desk.store, before)
        self.says(desk, [("in red write 1 6", "1"), ("held", "0 1"), ("read 1", "6"), ("write 2 7", "2"),
                         ("in red held", "0 1 2"), ("in red write 3 1", Full), ("look 0:0 1:1 2:2", "sound")])

    def test_on_leaves_the_parts(self):
        desk = self.laid("shift red blue 2", "cut 0", "on")
        self.says(desk, [("in red room", "1"), ("in blue room", "4")])


if __name__ == "__main__":
    unittest.main()
