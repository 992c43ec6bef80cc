"""Point 7: by which of its own methods a plain store asks itself."""

import unittest

from tests.helper import refusal_of
from wornpages.chip import Chip
from wornpages.errors import NoRoom
from wornpages.marks import ROLL
from wornpages.plain import Plain
from wornpages.terms import Terms


class Noting(Plain):
    """Notes what it is asked to make ready and to lay."""

    def __init__(self, chip, terms):
        Plain.__init__(self, chip, terms)
        self.asks = []

    def make_ready(self):
        self.asks.append("make_ready")

    def lay(self, name, value):
        self.asks.append(("lay", name, value))
        return 77


class NotingSetDown(Plain):
    def set_down(self, name, value):
        return ("set_down", name, value)


class OtherSpot(Plain):
    def spot(self):
        return 6


class NoSpot(Plain):
    def spot(self):
        return None


class Unready(Plain):
    def ready(self):
        return False


class AlwaysReady(Plain):
    def ready(self):
        return True


class WithReserve(Plain):
    def reserve(self):
        return 2


class WithFree(Plain):
    def free(self):
        return []


class WithPart(Plain):
    def part(self):
        return 2


class WithoutPart(Plain):
    def part(self):
        return None


def made(kind):
    return kind(Chip(3, 3), Terms(3, 3, 5, 3))


class OwnMethods(unittest.TestCase):
    def test_write_goes_by_make_ready_and_lay(self):
        store = made(Noting)
        self.assertEqual(store.write(4, 9), 77)
        self.assertEqual(store.asks, ["make_ready", ("lay", 4, 9)])
        self.assertEqual(store.chip.deeds(), [])

    def test_give_up_goes_by_make_ready_and_lay(self):
        store = made(Noting)
        for sheet in [1, 3, 4]:
            store.set_down(sheet, 9)
        self.assertEqual(store.give_up([3, 0, 3]), 1)
        self.assertEqual(store.asks, ["make_ready", ("lay", ROLL, 2 + 16)])
        self.assertEqual(store.held(), [1, 4])

    def test_nothing_is_made_ready_for_what_needs_no_page(self):
        store = made(Noting)
        self.assertEqual(store.give_up([3]), 0)
        self.assertEqual(store.give_up([]), 0)
        for ask in [(store.write, 5, 1), (store.write, 0, -1), (store.give_up, [5]), (store.read, 5)]:
            self.assertIsNotNone(refusal_of(*ask))
        for sheet in [0, 1, 2]:
            store.set_down(sheet, 1)
        self.assertIsNotNone(refusal_of(store.write, 3, 1))
        store.read(0)
        self.assertEqual(store.asks, [])

    def test_what_make_ready_refuses_comes_through(self):
        store = made(Unready)
        self.assertIs(refusal_of(store.make_ready).__class__, NoRoom)
        self.assertIs(refusal_of(store.write, 0, 1).__class__, NoRoom)
        store.set_down(0, 1)
        self.assertIs(refusal_of(store.give_up, [0]).__class__, NoRoom)
        self.assertEqual(store.held(), [0])

    def test_make_ready_goes_by_ready(self):
        store = made(AlwaysReady)
        for value in range(9):
            store.write(0, value)
        self.assertIsNone(store.make_ready())

    def test_lay_goes_by_set_down(self):
        store = made(NotingSetDown)
        self.assertEqual(store.lay(1, 2), ("set_down", 1, 2))
        self.assertEqual(store.write(1, 2), ("set_down", 1, 2))

    def test_set_down_goes_by_spot(self):
        store = made(OtherSpot)
        self.assertEqual(store.write(1, 2), 6)
        self.assertEqual(store.chip.deeds(), [("put", 6, True)])
        store = made(NoSpot)
        self.assertIs(store.ready(), True)
        for ask in [store.set_down, store.lay, store.write]:
            self.assertIs(refusal_of(ask, 1, 2).__class__, NoRoom)

    def test_ready_goes_by_reserve(self):
        store = made(WithReserve)
        told = []
        while store.ready():
            told.append(store.write(0, 1))
        # Two free blocks are not used up: the part is filled, and then the store is not ready.
        self.assertEqual(told, [0, 1, 2])
        self.assertEqual(store.free(), [1, 2])
        self.assertIs(refusal_of(store.write, 0, 1).__class__, NoRoom)

    def test_ready_with_a_part_and_fewer_free_blocks_than_the_reserve(self):
        store = made(WithReserve)
        for page in range(4):
            store.set_down(0, 1)
        self.assertEqual((store.part(), store.free()), (1, [2]))
        self.assertIs(store.ready(), False)

    def test_ready_goes_by_free(self):
        store = made(WithFree)
        self.assertIs(store.ready(), False)
        store.book.note(0, 3)
        self.assertIs(store.ready(), True)

    def test_ready_goes_by_part(self):
        store = made(WithPart)
        for page in range(9):
            store.book.note(page, 0)
        self.assertIs(store.ready(), True)
        store = made(WithoutPart)
        for page in range(7):
            store.book.note(page, 0)
        self.assertIs(store.ready(), False)


if __name__ == "__main__":
    unittest.main()
