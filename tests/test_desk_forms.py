"""Point 100: which rows there are, and what is none."""

import unittest

from tests.helper import HUGE, arguments_of, deeds_of, desk_told, refusal_of, state_of
from wornpages.desk import Desk
from wornpages.errors import (Full, NoChip, NoPart, NoRace, NoRow, NoRule, NoSheet, NoTerms, NoValue, PowerGone,
                              WornError)

NEW = "new 4 3 10 4 1 9 100"

# Rows that take just so many words, told to the desk of told_desk; each is done.
FIXED = [
    "new 4 3 10 4 1 9 100 1:5", "rule plain", "rule fewest", "rule eldest", "rule worth", "rule window 3",
    "rule turned plain", "rule turned turned window 2", "write 1 2", "read 1", "held", "failed", "wear", "moves",
    "rooms", "cut 5", "on", "up", "in red write 1 2", "in red read 1", "in red held", "in red empty", "in red room",
    "shift red blue 1",
]

# Rows that may have any number of the words in brackets behind them.
OPEN = [
    (NEW, ["0:9", "1:5"]), ("rule follow", ["3"]), ("rule turned follow", ["0"]), ("rule order worth", ["plain"]),
    ("give", ["1"]), ("look", ["1:0"]), ("race 3 3", ["1"]), ("parts", ["pink 2 1", "grey 3 2"]),
    ("in red give", ["1"]),
]

# Rows with which longer ones begin, whether they are done or not.
SHORTER = [NEW, "give", "look", "parts", "race 3 3", "rule follow", "rule order"]

WITHOUT_STORE = ["new", "rule", "race"]


def told_desk():
    """A desk with a store that holds the sheets 0 and 7, and with two parts."""
    return desk_told(NEW, "parts red 3 2 blue 4 2", "write 0 70", "write 7 71")


def all_of(desk):
    """All that a desk tells of itself, and the chip that it has."""
    rows = ["held", "failed", "wear", "moves", "rooms", "in red held", "in red room", "in blue room"]
    if desk.store is None:
        return None
    return ([desk.say(row) for row in rows], desk.parts.told(), desk.rule_words[:], state_of(desk.store.chip),
            desk.store.book.tell(), id(desk.store), id(desk.parts))


class Checks(unittest.TestCase):
    def refused(self, row, error=NoRow, desk=None):
        """Refused with this error, and nothing is changed by it."""
        desk = desk or told_desk()
        before = all_of(desk)
        self.assertIs(refusal_of(desk.say, row).__class__, error, row)
        self.assertEqual(all_of(desk), before)

    def done(self, row, desk=None):
        answer = (desk or told_desk()).say(row)
        self.assertIs(answer.__class__, str, row)
        return answer


class Forms(Checks):
    def test_arguments(self):
        self.assertEqual(arguments_of(Desk), [])
        self.assertEqual(arguments_of(Desk.say), ["self", "row"])

    def test_each_form_is_answered(self):
        for row in FIXED:
            self.done(row)
        for row, more in OPEN:
            self.done(row)
            for many in range(1, len(more) + 1):
                self.done(" ".join([row] + more[:many]))

    def test_a_word_too_many(self):
        for row in FIXED:
            if not row.startswith("new"):
                for word in ["1", "x", "red", "plain", "1:2"]:
                    self.refused(f"{row} {word}")
        for row, more in OPEN:
            for word in ["x", "1:2:3", "-1", "01", "1.0"]:
                self.refused(f"{row} {word}")
                self.refused(f"{row} {' '.join(more)} {word}")

    def test_a_word_too_few(self):
        for row in FIXED + [row for row, more in OPEN]:
            words = row.split(" ")
            for many in range(1, len(words)):
                begin = " ".join(words[:many])
                if begin not in SHORTER:
                    self.refused(begin)

    def test_rows_with_less_than_a_whole_part(self):
        for row in ["parts red", "parts red 3", "parts red 3 2 blue", "parts red 3 2 blue 4", "parts 1 2", "parts 3",
                    "parts red x 2", "parts red 3 x", "parts red 3 2 blue 4 x"]:
            self.refused(row)

    def test_words_that_are_no_rows(self):
        for row in ["x", "News", "NEW 4 3 10 4 1 9 100", "Held", "helds", "hel", "hold", "writes 1 2", "0", "1 2", "in",
                    "in red", "in red wear", "in red on", "in red give_up", "in red in held", "in held", "in red Held",
                    "in write 1 2", "in red new", "in red shift blue 1", "in in", "give_up 1", "none", "ok", "[", "..",
                    "red held", "make_room", "up!", "on.", "say held"]:
            self.refused(row)

    def test_what_is_no_text(self):
        for row in [None, 0, 1, True, False, [], ["held"], (),
                    ("held",), {}, {"held": 1}, 1.5, HUGE, object(), b"held"]:
            self.refused(row)
            self.assertIs(refusal_of(Desk().say, row).__class__, NoRow)

    def test_blanks(self):
        for row in ["", " ", "  ", " held", "held ", "  held", "held  "]:
            self.refused(row)
        for row in FIXED + [" ".join([row] + more) for row, more in OPEN]:
            self.refused(" " + row)
            self.refused(row + " ")
            for place, sign in enumerate(row):
                if sign == " ":
                    self.refused(row[:place] + " " + row[place:])

    def test_blanks_beside_words_of_any_kind(self):
        for row in ["in  held", "in  red held", "shift  blue 1", "shift red  1", "parts  red 1 1", "parts red 3 2 ",
                    "rule  plain", "x  y", "give ", "look ", "parts ", "rule follow ", "rule order "]:
            self.refused(row)

    def test_tabs_and_line_feeds_part_no_words(self):
        for row in ["held\n", "\nheld", "write\t1\t2", "write 1\t2", "write 1 2\n", "write 1\n 2", "read 1\t", "\t",
                    "\n",
                    "rule plain\n", "rule\tplain", "look 1:\t0", "look 1:0\n", "on\n", "give 1\n2", "in\tred\theld"]:
            self.refused(row)
        # But they may stand in a word that may be any word.
        for row in ["in r\ted held", "in red\n held", "shift red \n 1", "parts r\ted 1 1"]:
            self.refused(row, NoPart)


class Numbers(Checks):
    def test_one_to_forty_figures(self):
        for figures in [1, 2, 29, 30, 31, 39, 40]:
            error = None if figures <= 30 else NoValue
            for sign in "19":
                row = "write 0 " + sign * figures
                if error is None:
                    self.done(row)
                else:
                    self.refused(row, error)
        for figures in [41, 42, 100, 3000]:
            self.refused("write 0 " + "1" * figures)
            self.refused("write " + "1" * figures + " 0")
            self.refused("look 1:" + "1" * figures)
            self.refused("rule follow " + "1" * figures)

    def test_forty_figures_wherever_a_number_stands(self):
        big = "9" * 40
        for row, error in [
            (f"new {big} 3 10 4 1 9 100", NoChip), (f"new 4 {big} 10 4 1 9 100", NoChip),
            (f"new 4 3 {big} 4 1 9 100", NoTerms), (f"new 4 3 10 {big} 1 9 100", NoTerms),
            (f"new 4 3 10 4 {big} 9 100", NoTerms), (f"new 4 3 10 5 1 {big} 100", NoTerms),
            (f"new 4 3 10 4 1 9 {big}", NoChip), (f"new 4 3 10 4 1 9 100 {big}:1", NoChip),
            (f"new 4 3 10 4 1 9 100 1:{big}", NoChip), (f"write {big} 1", NoSheet), (f"write 1 {big}", NoValue),
            (f"read {big}", NoSheet), (f"give {big}", NoSheet), (f"give 0 {big}", NoSheet), (f"cut {big}", NoValue),
            (f"rule window {big}", NoRule), (f"look {big}:0", NoSheet), (f"race {big} 3", NoRace),
            (f"race 3 {big}", NoRace), (f"race 3 3 {big}", NoRace), (f"parts a {big} 1", NoPart),
            (f"parts a 1 {big}", NoPart), (f"in red write {big} 1", NoSheet), (f"in red write 1 {big}", NoValue),
            (f"in red read {big}", NoSheet), (f"in red give {big}", NoSheet), (f"shift red blue {big}", Full),
        ]:
            self.refused(row, error)
            self.refused(row.replace(big, big + "9"))
            self.refused(row.replace(big, "0" + big[1:]))
        self.assertEqual(self.done(f"look 0:{big} 7:1"), f"0 {big} nothing")
        self.assertEqual(self.done(f"rule follow {big} 0 {big}"), "ok")

    def test_nought_ahead_of_others(self):
        for word in ["00", "01", "007", "000", "0" * 40, "0" * 39 + "1"]:
            for row in ["write {} 1", "write 1 {}", "read {}", "give {}", "cut {}", "rule window {}", "rule follow {}",
                        "look {}:1", "look 1:{}", "race 3 3 {}", "new 4 3 10 4 {} 9 100", "in red read {}",
                        "shift red blue {}", "parts a {} 1", "new 4 3 10 4 1 9 100 {}:1"]:
                self.refused(row.format(word))
        for row in ["write 0 0", "read 0", "give 0", "cut 0", "look 0:0", "rule follow 0", "in red write 0 0"]:
            self.done(row)

    def test_words_that_are_no_numbers(self):
        for word in ["-1", "+1", "1.0", "1e3", "0x1", "1_0", "x", "1x", "x1", "one", "True", "none", "-0", ",", "1,2",
                     "#",
                     "/", ":", "1:", ":1", "1:2"]:
            for row in ["write {} 1", "write 1 {}", "read {}", "give {}", "give 0 {}", "cut {}", "rule window {}",
                        "rule follow {}", "race {} 3", "race 3 {}", "race 3 3 {}", "new {} 3 10 4 1 9 100",
                        "new 4 3 10 4 1 9 {}", "in red write {} 1", "in red write 1 {}", "in red read {}",
                        "in red give {}", "shift red blue {}", "parts a {} 1", "parts a 1 {}"]:
                self.refused(row.format(word))

    def test_pairs(self):
        for word in ["1", "1:", ":1", ":", "::", "1::2", "1:2:3", "1:2:", ":1:2", "01:2", "1:02", "-1:2", "1:-2", "1:x",
                     "x:1",
                     "1;2", "1,2", "1.2", "1:2,3:4"]:
            self.refused("look " + word)
            self.refused("look 1:0 " + word)
            self.refused(f"{NEW} {word}")
            self.refused(f"{NEW} 1:0 {word}")


class WithoutStore(Checks):
    def test_rows_told_to_a_desk_without_a_store(self):
        for row in FIXED + [row for row, more in OPEN] + [" ".join([row] + more) for row, more in OPEN]:
            if row.split(" ")[0] in WITHOUT_STORE:
                self.done(row, Desk())
            else:
                self.refused(row, NoRow, Desk())

    def test_what_would_be_refused_otherwise(self):
        for row in ["write 99 1", "write 1 " + "9" * 40, "read 99", "cut 1000001", "look 64:0", "parts X 1 1",
                    "in x held",
                    "shift a b 1", "give 99", "in x write 99 1"]:
            self.refused(row, NoRow, Desk())

    def test_refusals_of_the_rows_that_need_none(self):
        for row, error in [("new 1 3 10 4 1 9 100", NoChip), ("new 4 3 10 50 1 9 100", NoTerms), ("rule order", NoRule),
                           ("rule window 0", NoRule), ("race 2 2", NoRace), ("rule", NoRow), ("race 3", NoRow)]:
            desk = Desk()
            self.refused(row, error, desk)
            # A `new` that was refused gives no store.
            self.refused("held", NoRow, desk)


class Refused(Checks):
    def test_form_ahead_of_all_else(self):
        desk = told_desk()
        desk.say("cut 0")
        for row in ["write 99", "write 99 x", "give 99 x", "look 64:0 x", "cut 1000001 1", "in pink write 1",
                    "shift a b",
                    "parts X 1 1 x", "rule window 99 1", "race 9 9 x", "new 99 3 10 4 1 9 100 x",
                    "rule order fewest x"]:
            self.refused(row, NoRow, desk)

    def test_as_the_stages_refuse(self):
        for row, error in [
            ("new 4 3 10 4 1 9 100 4:1", NoChip), ("new 4 3 10 4 3 9 100", NoTerms), ("rule order", NoRule),
            ("write 10 1", NoSheet), ("read 10", NoSheet), ("give 0 10", NoSheet), ("cut 1000001", NoValue),
            ("look 64:0", NoSheet), ("race 3 3 0 1 2 3 4", NoRace), ("parts red 11 1", NoPart),
            ("in pink held", NoPart),
            ("in red write 3 1", NoSheet), ("in red read 3", NoSheet), ("in red give 3", NoSheet),
            ("shift red blue 2", Full), ("shift red blue 0", NoValue), ("shift red pink 1", NoPart),
        ]:
            self.refused(row, error)
            self.assertIsInstance(refusal_of(told_desk().say, row), WornError)

    def test_in_the_dark(self):
        desk = told_desk()
        desk.say("cut 0")
        for row in ["write 0 1", "read 0", "give 0", "in red write 0 1", "in red read 0", "in red give 0",
                    "in red empty",
                    "look", "look 0:0 0:0"]:
            self.refused(row, PowerGone, desk)
        for row, due in [("held", "0 7"), ("failed", "none"), ("wear", "0 0 0 0"), ("moves", "0"), ("rooms", "0"),
                         ("read 3", "none"), ("give", "0"), ("give 3", "0"), ("in red held", "0"), ("in red room", "1"),
                         ("in blue empty", "0"), ("shift blue red 1", "ok"), ("rule eldest", "ok"), ("race 3 3", "0 0"),
                         ("parts", "ok"), ("cut 0", "ok")]:
            self.assertEqual(desk.say(row), due)

    def test_what_the_stages_change_ahead_of_a_refusal(self):
        desk = desk_told("new 3 2 5 2 0 9 100", "write 0 1", "write 1 2", "write 0 3", "write 0 4", "cut 1")
        chip = desk.store.chip
        # The page that was moved stays moved, and the power is used up.
        self.assertEqual(deeds_of(chip, desk.say, "write 1 5"), [("put", 4, True)])
        desk.say("on")
        self.assertEqual([desk.say(row) for row in ["read 0", "read 1", "look 0:3 1:4", "rooms", "moves"]],
                         ["4", "2", "sound", "0", "0"])

    def test_long_rows(self):
        desk = told_desk()
        row = "give" + " 0" * 1998
        self.assertEqual((len(row), desk.say(row), desk.say(row)), (4000, "1", "0"))
        row = "in " + "x" * 3992 + " held"
        self.refused(row, NoPart, desk)
        self.refused("x" * 4000, NoRow, desk)
        row = "rule follow" + " 1" * 1994
        self.assertEqual((len(row), desk.say(row)), (3999, "ok"))
        # A bound that no point refuses for.
        self.assertEqual(desk.say("give" + " 7" * 3000), "1")


class TwoDesks(Checks):
    def test_they_have_nothing_in_common(self):
        one = told_desk()
        other = Desk()
        self.refused("held", NoRow, other)
        other.say("new 3 2 5 2 0 9 100")
        self.assertEqual((one.say("held"), other.say("held")), ("0 7", "none"))
        one.say("rule eldest")
        one.say("cut 0")
        self.assertEqual([other.say(row) for row in ["write 0 5", "read 0"]], ["0", "5"])
        one.say("on")
        self.assertEqual((one.say("read 0"), one.rule_words, other.rule_words), ("70", ["eldest"], ["fewest"]))
        self.assertIs(refusal_of(other.say, "in red held").__class__, NoPart)


if __name__ == "__main__":
    unittest.main()
