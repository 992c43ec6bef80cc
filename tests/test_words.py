"""Point 10, and what point 2 says of whole numbers."""

import unittest

from tests.helper import HUGE, NOT_WHOLE
from wornpages.words import is_shape, is_value, is_whole, is_within


class IsWhole(unittest.TestCase):
    def test_whole_numbers(self):
        for number in [0, 1, -1, 2, 64, 10 ** 30, -10 ** 30, 2 ** 64, HUGE, -HUGE]:
            self.assertIs(is_whole(number), True)

    def test_anything_else(self):
        for thing in NOT_WHOLE:
            self.assertIs(is_whole(thing), False, repr(thing))

    def test_named_argument(self):
        self.assertIs(is_whole(thing=3), True)


class IsWithin(unittest.TestCase):
    def check(self, low, high, thing, answer):
        self.assertIs(is_within(thing, low, high), answer)

    def test_the_bounds_and_the_numbers_beside_them(self):
        for low, high in [(0, 9), (-5, 5), (1, 2), (-20, -10), (-10 ** 40, 10 ** 40), (HUGE, HUGE + 7)]:
            self.check(low, high, low, True)
            self.check(low, high, low + 1, True)
            self.check(low, high, high - 1, True)
            self.check(low, high, high, True)
            self.check(low, high, low - 1, False)
            self.check(low, high, high + 1, False)

    def test_one_number_alone(self):
        for bound in [0, 1, -1, 10 ** 40]:
            self.check(bound, bound, bound, True)
            self.check(bound, bound, bound - 1, False)
            self.check(bound, bound, bound + 1, False)

    def test_nought_is_within(self):
        self.check(0, 0, 0, True)
        self.check(-1, 1, 0, True)
        self.check(0, 3, 0, True)

    def test_far_off(self):
        for thing in [HUGE, -HUGE, 10 ** 50, -10 ** 50]:
            self.check(-100, 100, thing, False)
        self.check(-HUGE, HUGE, 10 ** 50, True)

    def test_bounds_in_the_wrong_order(self):
        for thing in range(-2, 12):
            self.check(9, 0, thing, False)
        for thing in (0, 1):
            self.check(1, 0, thing, False)

    def test_what_is_no_whole_number(self):
        for thing in NOT_WHOLE:
            self.check(-10, 10, thing, False)
            self.check(1, 1, thing, False)
            self.check(0, 0, thing, False)

    def test_named_arguments(self):
        self.assertIs(is_within(thing=3, low=3, high=4), True)
        self.assertIs(is_within(thing=3, low=4, high=5), False)


class IsShape(unittest.TestCase):
    def test_bounds(self):
        for blocks, pages, answer in [
            (2, 1, True), (16, 16, True), (1, 1, False), (17, 16, False), (2, 0, False), (16, 17, False),
        ]:
            self.assertIs(is_shape(blocks, pages), answer)


class IsValue(unittest.TestCase):
    def test_bounds(self):
        for thing, answer in [(0, True), (10 ** 30 - 1, True), (-1, False), (10 ** 30, False), (HUGE, False)]:
            self.assertIs(is_value(thing), answer)
        for thing in NOT_WHOLE:
            self.assertIs(is_value(thing), False, repr(thing))


if __name__ == "__main__":
    unittest.main()
