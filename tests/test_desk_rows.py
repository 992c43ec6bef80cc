"""Points 5 and 6 over the whole program: long rows told to a desk, held against what was told done."""

import random
import unittest

from tests.helper import drawn_terms, refusal_of
from wornpages.coming import book_of
from wornpages.desk import Desk
from wornpages.errors import Full, PowerGone, WornOut
from wornpages.marks import ROLL

RULES = ["plain", "fewest", "eldest", "worth", "window 2", "turned fewest", "turned eldest", "order fewest eldest",
         "turned order worth plain", "follow 1 2 0 3 1 2", "turned turned worth", "follow"]

NAMES = ["red", "blue", "green"]


class DeskUsage:
    """A desk that is told rows drawn by chance, and what should be told of it by then."""

    def __init__(self, seed, more=0):
        self.draw = random.Random(seed)
        self.desk = Desk()
        self.terms = terms = drawn_terms(self.draw)
        failing = self.draw.sample(range(terms.blocks), terms.ill + more)
        ills = [f"{block}:{self.draw.choice([0, 1, 3, self.draw.randint(4, 60)])}" for block in failing]
        words = [terms.blocks, terms.pages, terms.sheets, terms.share, terms.ill, terms.spread, 1000] + ills
        self.desk.say(" ".join(map(str, ["new"] + words)))
        self.values = {}
        # Each part as [first sheet, sheets, share].
        self.parts = {}

    def part_rows(self):
        """A row that lays one part or two, and the parts that there are afterwards."""
        draw = self.draw
        parts = {}
        first, share = 0, self.terms.share
        for name in draw.sample(NAMES, draw.randint(0, min(2, self.terms.sheets, self.terms.share))):
            if first < self.terms.sheets and share:
                own = [first, draw.randint(1, self.terms.sheets - first), draw.randint(1, share)]
                parts[name] = own
                first, share = first + own[1], share - own[2]
        row = " ".join(["parts"] + [f"{name} {parts[name][1]} {parts[name][2]}" for name in parts])
        return row, parts

    def held_in(self, name):
        first, sheets, share = self.parts[name]
        return [sheet - first for sheet in sorted(self.values) if first <= sheet < first + sheets]

    def write(self):
        """A writing as (row, sheet, whether Full is due)."""
        draw = self.draw
        full = len(self.values) >= self.terms.share
        value = draw.randrange(10 ** 9)
        if self.parts and draw.random() < 0.5:
            name = draw.choice(sorted(self.parts))
            own = draw.randrange(self.parts[name][1])
            sheet = self.parts[name][0] + own
            full = full or len(self.held_in(name)) >= self.parts[name][2]
            return f"in {name} write {own} {value}", sheet, value, full and sheet not in self.values
        sheet = draw.randrange(self.terms.sheets)
        return f"write {sheet} {value}", sheet, value, full and sheet not in self.values

    def give(self):
        """A giving up as (row, sheets)."""
        draw = self.draw
        if self.parts and draw.random() < 0.6:
            name = draw.choice(sorted(self.parts))
            if draw.random() < 0.5:
                return f"in {name} empty", [self.parts[name][0] + sheet for sheet in self.held_in(name)]
            own = [draw.randrange(self.parts[name][1]) for turn in range(draw.randint(0, 3))]
            return " ".join(["in", name, "give"] + [str(sheet) for sheet in own]), [self.parts[name][0] + sheet
                                                                                    for sheet in own]
        sheets = [draw.randrange(self.terms.sheets) for turn in range(draw.randint(0, 3))]
        return " ".join(["give"] + [str(sheet) for sheet in sheets]), sheets

    def shift(self):
        """A shift as (row, one, other, many, whether Full is due)."""
        draw = self.draw
        one, other, many = draw.choice(sorted(self.parts)), draw.choice(sorted(self.parts)), draw.randint(1, 2)
        full = self.parts[one][2] - many < max(1, len(self.held_in(one)))
        return f"shift {one} {other} {many}", one, other, many, full


class LongRows:
    """What holds of every row that is told; for classes of tests."""

    worn = ()

    def asked(self, usage, row, full, dark_may_do):
        """Whether a row was done; refused it is with Full where that is due, else by the power alone."""
        refusal = refusal_of(usage.desk.say, row)
        if refusal is None:
            self.assertIs(full, False, row)
            return True
        allowed = (Full,) if full else (PowerGone,) + self.worn
        self.assertIn(refusal.__class__, allowed, row)
        if refusal.__class__ is PowerGone:
            self.assertIs(usage.desk.store.chip.is_dark(), True)
        self.assertIs(dark_may_do and not full, False, row)
        return False

    def tell(self, usage):
        """One row of any kind."""
        draw = usage.draw
        word = draw.choice(["write"] * 14 + ["give"] * 3 + ["rule", "up", "on", "parts", "shift", "cut", "race"])
        if word == "write":
            row, sheet, value, full = usage.write()
            if self.asked(usage, row, full, False):
                usage.values[sheet] = value
        elif word == "give":
            row, sheets = usage.give()
            held = set(sheets) & set(usage.values)
            if self.asked(usage, row, False, not held):
                for sheet in held:
                    usage.values.pop(sheet)
        elif word == "shift" and usage.parts:
            row, one, other, many, full = usage.shift()
            if self.asked(usage, row, full, True):
                usage.parts[one][2] -= many
                usage.parts[other][2] += many
        elif word == "parts":
            row, parts = usage.part_rows()
            self.asked(usage, row, False, True)
            usage.parts = parts
        else:
            row = {"rule": f"rule {draw.choice(RULES)}", "cut": f"cut {draw.choice([0, 1, 2, 3, 5, 9])}", "up": "up",
                   "race": "race 3 2 0 1 1 1 0 0"}.get(word, "on")
            self.asked(usage, row, False, True)

    def check_told(self, usage):
        """What is told of the store is what was told done; with power it is read so too, and the chip agrees."""
        say = usage.desk.say
        held = sorted(usage.values)
        self.assertEqual(say("held"), " ".join(map(str, held)) or "none")
        for name, (first, sheets, share) in usage.parts.items():
            own = usage.held_in(name)
            self.assertEqual(say(f"in {name} held"), " ".join(map(str, own)) or "none")
            self.assertEqual(say(f"in {name} room"), str(max(0, share - len(own))))
        chip = usage.desk.store.chip
        wear = [int(word) for word in say("wear").split(" ")]
        good = [wear[block] for block in range(chip.blocks) if not chip.failed(block)]
        self.assertLessEqual(max(good) - min(good), usage.terms.spread)
        if chip.is_dark():
            return
        for sheet in range(usage.terms.sheets):
            self.assertEqual(say(f"read {sheet}"), str(usage.values.get(sheet, "none")))
        book = book_of(chip)
        self.assertEqual(book.tell(), usage.desk.store.book.tell())
        where = [f"{sheet}:{page}" for sheet, page in sorted(book.where.items()) if sheet != ROLL]
        self.assertEqual(say(" ".join(["look"] + where)), "sound")

    def run_rows(self, seed, more=0):
        usage = DeskUsage(seed, more)
        for turn in range(120):
            self.tell(usage)
            self.check_told(usage)
            if usage.desk.store.chip.is_dark() and usage.draw.random() < 0.5:
                usage.desk.say(usage.draw.choice(["on", "up"]))
                self.check_told(usage)
        return usage


class Promise(LongRows, unittest.TestCase):
    def test_as_many_failing_blocks_as_may(self):
        failed = 0
        for seed in range(40):
            usage = self.run_rows(seed)
            failed += len(usage.desk.say("failed").replace("none", "").split())
        self.assertGreater(failed, 10)


class MoreFailures(LongRows, unittest.TestCase):
    worn = (WornOut,)

    def test_one_failing_block_more_than_may(self):
        worn = 0
        for seed in range(100, 130):
            usage = self.run_rows(seed, more=1)
            if usage.desk.store.worn():
                worn += 1
                usage.desk.say("up")
                row, sheet, value, full = usage.write()
                self.assertIs(refusal_of(usage.desk.say, row).__class__, Full if full else WornOut)
                self.check_told(usage)
        self.assertGreater(worn, 5)


if __name__ == "__main__":
    unittest.main()
