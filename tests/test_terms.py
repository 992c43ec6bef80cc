"""Points 4 and 11: the terms of a store."""

import inspect
import unittest

from tests.helper import HUGE, MILLION, NOT_WHOLE
from wornpages.errors import NoTerms
from wornpages.terms import Terms

NAMES = ["blocks", "pages", "sheets", "share", "ill", "spread"]

# Ordinary terms in which each number can be put otherwise by itself.
ORDINARY = {"blocks": 5, "pages": 4, "sheets": 10, "share": 3, "ill": 1, "spread": 7}


def fields_of(terms):
    return [getattr(terms, name) for name in NAMES]


class TermsTests(unittest.TestCase):
    def allowed(self, **numbers):
        told = {**ORDINARY, **numbers}
        terms = Terms(**told)
        self.assertEqual(fields_of(terms), [told[name] for name in NAMES])
        return terms

    def refused(self, **numbers):
        with self.assertRaises(NoTerms):
            Terms(**{**ORDINARY, **numbers})

    def test_arguments_and_defaults(self):
        arguments = inspect.signature(Terms).parameters
        self.assertEqual(list(arguments), NAMES)
        self.assertEqual(arguments["ill"].default, 0)
        self.assertEqual(arguments["spread"].default, MILLION)

    def test_fields(self):
        self.assertEqual(fields_of(Terms(6, 5, 40, 9, 2, 11)), [6, 5, 40, 9, 2, 11])

    def test_ill_and_spread_left_out(self):
        self.assertEqual(fields_of(Terms(6, 5, 40, 9)), [6, 5, 40, 9, 0, MILLION])
        self.assertEqual(fields_of(Terms(6, 5, 40, 9, 2)), [6, 5, 40, 9, 2, MILLION])
        self.assertEqual(fields_of(Terms(6, 5, 40, 9, spread=8)), [6, 5, 40, 9, 0, 8])
        self.assertEqual(Terms(6, 5, 40, 9).closed(), 5)

    def test_closed(self):
        for blocks in range(2, 17):
            for ill in range(blocks - 1):
                terms = Terms(blocks, 16, 10, 1, ill)
                self.assertEqual(terms.closed(), blocks - 1 - ill)
                self.assertGreaterEqual(terms.closed(), 1)

    def test_blocks(self):
        self.allowed(blocks=2, ill=0, share=1)
        self.allowed(blocks=16)
        for blocks in [1, 0, -1, -5, 17, 18, 100]:
            self.refused(blocks=blocks)
            self.refused(blocks=blocks, ill=0, share=1)
            self.refused(blocks=blocks, pages=16, ill=0, share=1)

    def test_pages(self):
        self.allowed(pages=1, blocks=6, share=1)
        self.allowed(pages=16)
        for pages in [0, -1, -4, 17, 18, 100]:
            self.refused(pages=pages)
            self.refused(pages=pages, share=1)

    def test_sheets(self):
        self.allowed(sheets=1)
        self.allowed(sheets=64)
        for sheets in [0, -1, 65, 66, 1000]:
            self.refused(sheets=sheets)

    def test_share(self):
        self.allowed(share=1)
        self.allowed(share=10)
        for share in [0, -1, 11, 12, 20, 1000]:
            self.refused(share=share)

    def test_ill(self):
        self.allowed(ill=0)
        self.allowed(ill=3, share=2)
        for ill in [-1, -2, -5, 4, 5, 6, 100]:
            self.refused(ill=ill, share=1)
            self.refused(ill=ill, share=2)

    def test_spread(self):
        self.allowed(spread=1)
        self.allowed(spread=MILLION)
        for spread in [0, -1, MILLION + 1, 2 * MILLION]:
            self.refused(spread=spread)

    def test_bound_of_share_by_closed_and_pages(self):
        for blocks in range(2, 17):
            for pages in range(1, 17):
                for ill in range(blocks - 1):
                    self.check_share(blocks, pages, ill)

    def check_share(self, blocks, pages, ill):
        bound = (blocks - 1 - ill) * pages - 2
        self.refused(blocks=blocks, pages=pages, ill=ill, share=0)
        self.refused(blocks=blocks, pages=pages, ill=ill, share=bound + 1)
        if bound >= 1:
            self.allowed(blocks=blocks, pages=pages, ill=ill, share=1)
            self.allowed(blocks=blocks, pages=pages, ill=ill, share=bound)
        else:
            self.refused(blocks=blocks, pages=pages, ill=ill, share=1)

    def test_bound_of_ill_by_blocks(self):
        for blocks in range(2, 17):
            self.allowed(blocks=blocks, pages=16, ill=blocks - 2, share=14)
            self.refused(blocks=blocks, pages=16, ill=blocks - 1, share=1)
            self.refused(blocks=blocks, pages=16, ill=blocks, share=1)

    def test_no_terms_on_fewer_than_three_closed_pages(self):
        for blocks, pages in [(2, 1), (2, 2), (3, 1)]:
            for share in range(-3, 5):
                self.refused(blocks=blocks, pages=pages, ill=0, share=share)
        self.allowed(blocks=2, pages=3, ill=0, share=1)
        self.allowed(blocks=4, pages=1, ill=0, share=1)

    def test_share_greater_than_sheets(self):
        self.allowed(sheets=1, share=10)
        self.allowed(blocks=16, pages=16, ill=0, sheets=64, share=238)

    def test_far_off(self):
        for name in NAMES:
            for number in [10 ** 40, -10 ** 40, HUGE, -HUGE]:
                self.refused(**{name: number})

    def test_what_is_no_whole_number(self):
        for name in NAMES:
            for thing in NOT_WHOLE + ["3", 3.0]:
                with self.subTest(name, thing=thing):
                    self.refused(**{name: thing})

    def test_truths_that_would_be_within_as_numbers(self):
        room = {"blocks": 16, "pages": 16, "share": 1}
        for name in ["pages", "sheets", "share", "ill", "spread"]:
            self.refused(**{**room, name: True})
        self.refused(**{**room, "ill": False})


if __name__ == "__main__":
    unittest.main()
