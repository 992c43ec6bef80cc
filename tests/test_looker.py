"""Point 74: what the looker finds wrong in a list that tells where the sheets lie."""

import random
import unittest

from tests.helper import (AskChecks, Usage, arguments_of, book_by_the_words, drawn_chip, drawn_rule, drawn_terms,
                          laid, refusal_of, state_of)
from wornpages.chip import Chip
from wornpages.errors import PowerGone
from wornpages.looker import faults
from wornpages.marks import ROLL, bits_of, name_of
from wornpages.sure import Sure


def small_chip():
    """Sheet 5 lies on page 2 (an older page of it is 0), sheet 6 on page 4, sheet 63 on page 5. Sheet 7, page 1, was
    given up by the roll on page 3; pages 6 to 8 are clear."""
    return laid(3, 3, [(0, 1, 5, 70), (1, 2, 7, 71), (2, 3, 5, 72), (3, 4, ROLL, bits_of([5])), (4, 5, 6, 73),
                       (5, 6, 63, 74)])


RIGHT = [(5, 2), (6, 4), (63, 5)]


def faults_by_the_words(chip, told):
    """What point 74 says, gone through sort by sort."""
    where = dict(book_by_the_words(chip)[0])
    where.pop(ROLL, None)
    found = []
    for place, (sheet, page) in enumerate(told):
        stuff = chip.read(page) if page in range(chip.blocks * chip.pages) else None
        fits = [
            ("twice", sheet in [ahead for ahead, other in told[:place]]),
            ("nothing", stuff is None),
            ("other", stuff is not None and name_of(stuff[0]) != sheet),
            ("gone", sheet not in where),
            ("old", where.get(sheet) != page),
        ]
        found += [(sheet, page, sort) for sort, holds in fits if holds][:1]
    named = [sheet for sheet, page in told]
    return found + [(sheet, where[sheet], "missing") for sheet in sorted(where) if sheet not in named]


class Sorts(unittest.TestCase):
    def found(self, told, due):
        chip = small_chip()
        before = state_of(chip)
        handed = list(told)
        self.assertEqual(faults(chip, handed), due)
        self.assertEqual(handed, told)
        self.assertEqual(state_of(chip), before)

    def besides(self, told, due):
        """The same behind all that is right, where the sheets told are not among it."""
        named = [sheet for sheet, page in told]
        self.found(told + [pair for pair in RIGHT if pair[0] not in named], due)

    def test_arguments(self):
        self.assertEqual(arguments_of(faults), ["chip", "told"])

    def test_nothing_is_wrong_in_any_order(self):
        for told in [RIGHT, RIGHT[::-1], [RIGHT[1], RIGHT[0], RIGHT[2]]]:
            self.found(told, [])

    def test_twice_with_whatever_page(self):
        for page in [2, 0, 4, 3, 8, -1, 99]:
            self.found(RIGHT + [(5, page)], [(5, page, "twice")])
        # Told wrong at first, and right behind that.
        for page, sort in [(0, "old"), (4, "other"), (3, "other"), (8, "nothing"), (-1, "nothing"), (99, "nothing")]:
            self.found([(5, page)] + RIGHT, [(5, page, sort), (5, 2, "twice")])
        self.found([(5, 2), (5, 2)] + RIGHT, [(5, 2, "twice"), (5, 2, "twice")])

    def test_a_sheet_that_is_not_held_told_twice(self):
        self.found(RIGHT + [(7, 1), (7, 1), (9, 0), (9, 8)],
                   [(7, 1, "gone"), (7, 1, "twice"), (9, 0, "other"), (9, 8, "twice")])

    def test_nothing_beside_the_chip_or_clear(self):
        for page in [6, 7, 8, 9, 10, -1, -9, 10 ** 40, -10 ** 40]:
            for sheet in [5, 7, 8, 0, 63]:
                self.besides([(sheet, page)], [(sheet, page, "nothing")])

    def test_pages_below_nought_are_not_counted_from_the_end(self):
        # Page 2 from the end of a list of the pages would be written.
        chip = laid(2, 2, [(0, 1, 5, 70), (2, 2, 6, 71), (3, 3, 7, 72)])
        self.assertEqual(faults(chip, [(5, -4), (6, -2), (7, -1)]),
                         [(5, -4, "nothing"), (6, -2, "nothing"), (7, -1, "nothing")])

    def test_other_names_and_rolls(self):
        for sheet, page in [(5, 4), (5, 1), (6, 5), (7, 2), (8, 2), (0, 0), (5, 3), (7, 3), (0, 3)]:
            self.besides([(sheet, page)], [(sheet, page, "other")])

    def test_gone(self):
        self.besides([(7, 1)], [(7, 1, "gone")])

    def test_gone_though_another_page_of_the_sheet_is_newer(self):
        chip = laid(2, 4, [(0, 1, 5, 70), (1, 2, 5, 71), (2, 3, ROLL, 0)])
        self.assertEqual(faults(chip, [(5, 0)]), [(5, 0, "gone")])
        self.assertEqual(faults(chip, [(5, 1)]), [(5, 1, "gone")])

    def test_old(self):
        self.besides([(5, 0)], [(5, 0, "old")])

    def test_old_by_the_stamp_not_by_the_place(self):
        chip = laid(2, 2, [(0, 9, 5, 70), (2, 3, 5, 71)])
        self.assertEqual(faults(chip, [(5, 0)]), [])
        self.assertEqual(faults(chip, [(5, 2)]), [(5, 2, "old")])

    def test_missing_rising_with_their_live_pages(self):
        self.found([], [(5, 2, "missing"), (6, 4, "missing"), (63, 5, "missing")])
        self.found([(6, 4)], [(5, 2, "missing"), (63, 5, "missing")])
        self.found([(63, 5), (7, 1)], [(7, 1, "gone"), (5, 2, "missing"), (6, 4, "missing")])

    def test_a_sheet_told_wrong_is_not_missing(self):
        for page in [0, 4, 3, 8, -1]:
            self.assertNotIn("missing", [fault[2] for fault in faults(small_chip(), [(5, page), (6, 4), (63, 5)])])

    def test_in_the_order_of_the_list(self):
        self.found([(63, 0), (7, 1), (6, 8), (5, 0), (6, 4), (1, 2)],
                   [(63, 0, "other"), (7, 1, "gone"), (6, 8, "nothing"), (5, 0, "old"), (6, 4, "twice"),
                    (1, 2, "other")])

    def test_a_clear_chip(self):
        self.assertEqual(faults(Chip(3, 2), []), [])
        self.assertEqual(faults(Chip(3, 2), [(0, 0), (0, 5), (1, 6)]),
                         [(0, 0, "nothing"), (0, 5, "twice"), (1, 6, "nothing")])

    def test_in_the_dark_whatever_the_list(self):
        for chip in [small_chip(), Chip(2, 1)]:
            chip.cut_after(0)
            for told in [[], RIGHT, [(5, 2), (5, 2)], [(5, 99)]]:
                self.assertIs(refusal_of(faults, chip, told).__class__, PowerGone)

    def test_the_answer_is_the_askers_own(self):
        chip = small_chip()
        told = [(5, 0)]
        answer = faults(chip, told)
        told.append((6, 9))
        due = [(5, 0, "old"), (6, 4, "missing"), (63, 5, "missing")]
        self.assertEqual(answer, due)
        answer.clear()
        self.assertEqual(faults(chip, [(5, 0)]), due)

    def test_kinds(self):
        for fault in faults(small_chip(), [(5, 0), (7, 9)]):
            self.assertEqual([thing.__class__ for thing in fault], [int, int, str])
            self.assertIs(fault.__class__, tuple)


class Drawn(AskChecks, unittest.TestCase):
    def drawn_list(self, draw, chip):
        """Some of what is right, and some that need not be."""
        where = [pair for pair in book_by_the_words(chip)[0] if pair[0] != ROLL]
        told = draw.sample(where, draw.randint(0, len(where)))
        for turn in range(draw.randint(0, 5)):
            told.append((draw.choice([0, 1, 2, 3, 4, 5, 63]), draw.randint(-2, chip.blocks * chip.pages + 1)))
        draw.shuffle(told)
        return told

    def test_chips_that_lie_well(self):
        sorts = {}
        for seed in range(1500):
            draw = random.Random(seed)
            chip = drawn_chip(draw)
            told = self.drawn_list(draw, chip)
            found = faults(chip, told)
            self.assertEqual(found, faults_by_the_words(chip, told))
            for fault in found:
                sorts[fault[2]] = True
        self.assertEqual(sorted(sorts), ["gone", "missing", "nothing", "old", "other", "twice"])

    def test_what_a_store_holds_is_right(self):
        for seed in range(20):
            draw = random.Random(seed)
            terms = drawn_terms(draw)
            ills = [(block, draw.randint(0, 30)) for block in draw.sample(range(terms.blocks), terms.ill)]
            usage = Usage(Sure(Chip(terms.blocks, terms.pages, 1000, ills), terms, drawn_rule(draw)), draw)
            for turn in range(40):
                self.checked(usage, 0.2)
                where = [(sheet, usage.store.book.where[sheet]) for sheet in usage.values]
                self.assertEqual(faults(usage.chip, where), [])


if __name__ == "__main__":
    unittest.main()
