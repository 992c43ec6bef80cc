"""Points 94, 5 and 6: long rows of asks of parts that are used side by side."""

import random
import unittest

from tests.helper import drawn_rule, drawn_terms, refusal_of
from wornpages.chip import Chip
from wornpages.coming import book_of, come_up
from wornpages.errors import Full, PowerGone, WornOut
from wornpages.parts import Parts
from wornpages.rules import Fewest
from wornpages.sure import Sure
from wornpages.terms import Terms


class NotedFull(Sure):
    """A sure store that notes where it refuses with Full by itself."""

    fulls = 0

    def write(self, sheet, value):
        try:
            return Sure.write(self, sheet, value)
        except Full:
            self.fulls += 1
            raise


def drawn_parts(draw, terms):
    """Parts that together have all sheets and the whole share."""
    many = draw.randint(1, min(3, terms.sheets, terms.share))
    rows = []
    sheets, share = terms.sheets, terms.share
    for name in ["red", "blue", "green"][:many]:
        left = many - len(rows) - 1
        own = (sheets, share) if left == 0 else (draw.randint(1, sheets - left), draw.randint(1, share - left))
        rows.append((name,) + own)
        sheets, share = sheets - own[0], share - own[1]
    return rows


class PartUsage:
    """Parts of a store that are used by asks that are drawn by chance, and what each sheet should read as by then."""

    def __init__(self, seed, kind=NotedFull, more=0):
        self.draw = draw = random.Random(seed)
        terms = drawn_terms(draw)
        failing = draw.sample(range(terms.blocks), terms.ill + more)
        self.chip = Chip(terms.blocks, terms.pages, 1000, [(block, draw.randint(0, 60)) for block in failing])
        self.rows = drawn_parts(draw, terms)
        self.parts = Parts(kind(self.chip, terms, drawn_rule(draw)), list(self.rows))
        self.values = {(name, sheet): None for name, sheets, share in self.rows for sheet in range(sheets)}
        self.shares = {name: share for name, sheets, share in self.rows}

    def held(self, name):
        return [key[1] for key in self.values if key[0] == name and self.values[key] is not None]

    def ask(self):
        """The refusal of an ask, None where there is none, and whether Full is due."""
        name, sheets, share = self.draw.choice(self.rows)
        sheet = self.draw.randrange(sheets)
        word = self.draw.choice(["write"] * 12 + ["give_up", "give_up", "empty", "shift", "shift"])
        if word == "write":
            return self.write(name, sheet)
        if word == "shift":
            return self.shift(name)
        gone = self.held(name) if word == "empty" else sorted({sheet, self.draw.randrange(sheets)})
        refusal = refusal_of(self.parts.empty, name) if word == "empty" else refusal_of(self.parts.give_up, name, gone)
        if refusal is None:
            self.values.update({(name, sheet): None for sheet in gone})
        return refusal.__class__, False

    def write(self, name, sheet):
        full = self.values[name, sheet] is None and len(self.held(name)) >= self.shares[name]
        value = self.draw.randrange(1000)
        refusal = refusal_of(self.parts.write, name, sheet, value)
        if refusal is None:
            self.values[name, sheet] = value
        return refusal.__class__, full

    def shift(self, name):
        other = self.draw.choice(self.rows)[0]
        many = self.draw.randint(1, 3)
        full = self.shares[name] - many < max(1, len(self.held(name)))
        refusal = refusal_of(self.parts.shift, name, other, many)
        if refusal is None:
            self.shares[name] -= many
            self.shares[other] += many
        return refusal.__class__, full

    def told(self):
        """What the parts tell, the book found, and what is due."""
        parts = self.parts
        rows = [(name, sheets, self.shares[name]) for name, sheets, share in self.rows]
        held = [(parts.held(name), parts.room(name)) for name, sheets, share in rows]
        read = {key: parts.read(*key) for key in self.values}
        due = [(self.held(name), max(0, self.shares[name] - len(self.held(name)))) for name, sheets, share in rows]
        return ((parts.told(), held, read, parts.store.book.tell()),
                (rows, due, self.values, book_of(self.chip).tell()))


class PartChecks:
    """What holds of every ask of parts; for classes of tests."""

    refusals = [None.__class__, Full, PowerGone]

    def checked(self, usage, chance):
        if usage.draw.random() < chance:
            usage.chip.cut_after(usage.draw.randrange(6))
        refusal, full = usage.ask()
        self.assertIn(refusal, self.refusals)
        self.assertEqual(refusal is Full, full)
        usage.chip.power_on()
        told, due = usage.told()
        self.assertEqual(told, due)


class SideBySide(PartChecks, unittest.TestCase):
    def test_the_store_never_refuses_with_full_by_itself(self):
        for seed in range(60):
            usage = PartUsage(seed)
            for turn in range(80):
                self.checked(usage, 0.15)
            self.assertEqual(usage.parts.store.fulls, 0)

    def test_parts_that_are_laid_anew(self):
        for seed in range(30):
            usage = PartUsage(seed)
            for turn in range(60):
                self.checked(usage, 0.15)
                if usage.draw.random() < 0.3:
                    store = come_up(usage.chip, usage.parts.store.terms, drawn_rule(usage.draw))
                    usage.parts = Parts(store, usage.parts.told())

    def test_a_part_uses_its_room_whatever_the_others_hold(self):
        for order in [["red", "blue", "green"], ["green", "red", "blue"], ["blue", "green", "red"]]:
            rows = [("red", 8, 5), ("blue", 3, 2), ("green", 9, 5)]
            parts = Parts(Sure(Chip(6, 4), Terms(6, 4, 20, 12, 1), Fewest()), rows)
            for name in order:
                for sheet in range(parts.share_of(name)):
                    parts.write(name, sheet, sheet)
                self.assertEqual(parts.room(name), 0)
            self.assertEqual(len(parts.store.held()), 12)
            for name in order:
                self.assertIs(refusal_of(parts.write, name, 7 if name != "blue" else 2, 1).__class__, Full)
                for sheet in range(2):
                    parts.write(name, sheet, 9)

    def test_nothing_of_the_parts_lies_on_the_pages(self):
        told = []
        for rows in [[("red", 4, 3), ("blue", 4, 3)], [("a", 1, 1), ("b", 2, 1), ("c", 5, 4)]]:
            chip = Chip(4, 4)
            parts = Parts(Sure(chip, Terms(4, 4, 8, 6), Fewest()), rows)
            parts.shift(rows[-1][0], rows[0][0], 1)
            for sheet in [0, 3, 5, 0]:
                parts.store.write(sheet, sheet)
            told.append([chip.read(page) for page in range(16)])
        self.assertEqual(told[0], told[1])


class Worn(PartChecks, unittest.TestCase):
    refusals = [None.__class__, Full, PowerGone, WornOut]

    def test_more_failing_blocks_than_may(self):
        worn = 0
        for seed in range(30):
            usage = PartUsage(seed, more=1)
            for turn in range(80):
                self.checked(usage, 0.1)
            worn += usage.parts.store.worn()
        self.assertGreater(worn, 5)


if __name__ == "__main__":
    unittest.main()
