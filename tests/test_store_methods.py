"""Point 7: by which of its own methods a store that makes room asks itself."""

import unittest

from tests.helper import NotingRule, noted, put_otherwise, refusal_of, two_live_blocks
from wornpages.chip import Chip
from wornpages.errors import BlockFailed, NoRoom
from wornpages.even import Even
from wornpages.marks import ROLL
from wornpages.rules import Fewest, Rule
from wornpages.store import Store
from wornpages.sure import Sure
from wornpages.terms import Terms

KINDS = [Store, Even, Sure]

TALLIES = [(0, 3, 0, 1), (1, 3, 0, 5)]


class OwnMethods(unittest.TestCase):
    def made(self, rule=None, **methods):
        """A new store of each class, with some of its methods put otherwise."""
        for kind in KINDS:
            other = put_otherwise(kind, **methods)
            yield other(Chip(4, 3), Terms(4, 3, 9, 4), NotingRule(Rule()) if rule is None else rule)

    def used(self, **methods):
        """The store of two_live_blocks, of each class, with some of its methods put otherwise."""
        for kind in KINDS:
            yield two_live_blocks(put_otherwise(kind, **methods), NotingRule(Rule()))

    def test_write_and_give_up_go_by_make_ready_and_lay(self):
        asks = []
        for store in self.made(make_ready=lambda store: asks.append("make_ready"),
                               lay=lambda store, name, value: asks.append((name, value))):
            store.set_down(3, 1)
            store.set_down(1, 1)
            asks.clear()
            self.assertIsNone(store.write(4, 9))
            self.assertEqual(store.give_up([1]), 1)
            self.assertEqual(asks, ["make_ready", (4, 9), "make_ready", (ROLL, 8)])
            self.assertEqual(len(store.chip.deeds()), 2)

    def test_ready_goes_by_free_part_and_reserve(self):
        for free, part, reserve, ready in [
            ([], None, 0, False), ([], 0, 0, True), ([], 2, 1, False), ([1], None, 0, True), ([1], None, 1, False),
            ([1], 0, 1, True), ([1, 3], None, 2, False), ([1, 3], 0, 3, False), ([1, 3], None, 1, True),
        ]:
            for store in self.made(free=lambda store: list(free), part=lambda store: part,
                                   reserve=lambda store: reserve):
                self.assertIs(store.ready(), ready)

    def test_lay_goes_by_set_down(self):
        for store in self.made(set_down=lambda store, name, value: ("set", name, value)):
            self.assertEqual(store.lay(3, 4), ("set", 3, 4))
            self.assertEqual(store.write(3, 4), ("set", 3, 4))

    def test_set_down_goes_by_spot(self):
        for store in self.made(spot=lambda store: 6):
            self.assertEqual((store.write(1, 2), store.chip.deeds()), (6, [("put", 6, True)]))
        for store in self.made(spot=lambda store: None):
            for ask in [store.set_down, store.lay, store.write]:
                self.assertIs(refusal_of(ask, 1, 2).__class__, NoRoom)

    def test_space_goes_by_free_reserve_and_part(self):
        for free, part, reserve, space in [
            ([], None, 0, 3), ([], None, 1, 0), ([], 0, 1, 2), ([], 1, 1, 1), ([1, 2], 0, 2, 3), ([1, 2], 1, 3, 1),
            ([1, 2], None, 3, 0), ([1, 2], None, 1, 3),
        ]:
            for store in self.made(free=lambda store: list(free), part=lambda store: part,
                                   reserve=lambda store: reserve):
                noted(store, [(0, [None]), (1, [None, None])])
                self.assertEqual(store.space(), space)

    def test_full_ones_go_by_good_space_and_tally(self):
        for store in self.made(good=lambda store: [2, 3], space=lambda store: 1,
                               tally=lambda store, block: (block, store.book.live[block], 7, 8)):
            noted(store, [(0, [None] * 3), (2, [None, 1, None]), (3, [2, None, 3])])
            self.assertEqual(store.full_ones(), [(2, 1, 7, 8)])

    def test_options_go_by_full_ones(self):
        for store in self.made(full_ones=lambda store: [(0, 3, 0, 1), (1, 2, 0, 4), (3, 0, 5, 7)]):
            self.assertEqual(store.options(), [(1, 2, 0, 4), (3, 0, 5, 7)])
            self.assertEqual(store.choice(), ("rule", 1))

    def test_choice_goes_by_options(self):
        for store in self.made(options=lambda store: [(2, 1, 0, 3), (3, 1, 0, 5)]):
            self.assertEqual(store.choice(), ("rule", 2))
            self.assertEqual(store.rule.asks, [([(2, 1, 0, 3), (3, 1, 0, 5)], 3, 1)])
        for store in self.used(options=lambda store: []):
            # An even store changes about then; the others refuse.
            if isinstance(store, Even):
                self.assertEqual(store.choice(), ("even", 0))
            else:
                self.assertIs(refusal_of(store.choice).__class__, NoRoom)
            self.assertEqual(store.rule.asks, [])

    def test_make_ready_goes_by_ready_and_make_room(self):
        rooms = []
        for store in self.made(ready=lambda store: len(rooms) == 3, make_room=lambda store: rooms.append(1)):
            rooms.clear()
            store.write(0, 1)
            self.assertEqual((len(rooms), store.chip.deeds()), (3, [("put", 0, True)]))

    def test_make_room_goes_by_options_choice_moved_and_wiped(self):
        asks = []

        def moved(store, block):
            asks.append(("moved", block))
            return [(7, 8, 9)]

        def wiped(store, block):
            asks.append(("wiped", block))
            return False

        for store in self.made(options=lambda store: [(5, 5, 5, 5)], choice=lambda store: ("why", 3),
                               moved=moved, wiped=wiped):
            asks.clear()
            paper = ("why", [(5, 5, 5, 5)], 3, [(7, 8, 9)], False)
            self.assertEqual(store.make_room(), paper)
            self.assertEqual(store.papers, [paper])
            self.assertEqual(asks, [("moved", 3), ("wiped", 3)])
            self.assertEqual((store.chip.deeds(), store.rule.asks), ([], []))

    def test_make_room_by_each_method_alone(self):
        whole = ("rule", TALLIES, 0, [(0, 0, 11), (1, 1, 12), (2, 2, 13)], True)
        for store in self.used():
            self.assertEqual(store.make_room(), whole)
        for store in self.used(options=lambda store: TALLIES[1:]):
            self.assertEqual(store.make_room()[1:3], (TALLIES[1:], 1))
        for store in self.used(choice=lambda store: ("rule", 1)):
            self.assertEqual(store.make_room()[1:3], (TALLIES, 1))
        for store in self.used(wiped=lambda store, block: False):
            self.assertEqual(store.make_room(), whole[:4] + (False,))
            self.assertEqual(store.chip.cleared(0), 0)

    def test_moved_goes_by_lay(self):
        asks = []

        def lay(store, name, value):
            asks.append((name, value))
            return 40 + len(asks)

        for kind in KINDS:
            store = two_live_blocks(kind, Fewest())
            store.__class__ = put_otherwise(kind, lay=lay)
            asks.clear()
            self.assertEqual(store.moved(1), [(ROLL, 4, 41), (4, 6, 42), (5, 7, 43)])
            self.assertEqual(asks, [(ROLL, sum(1 << sheet for sheet in store.held())), (4, 104), (5, 105)])

    def test_the_roll_that_is_moved_goes_by_held(self):
        for store in self.used():
            store.__class__ = put_otherwise(store.__class__, held=lambda store: [1, 3])
            store.moved(1)
            self.assertEqual(store.chip.read(11)[1], 10)


class Refusing(unittest.TestCase):
    def test_what_a_method_refuses_comes_through_and_leaves_no_paper(self):
        def refuse(store, *handed):
            raise BlockFailed(1)

        for kind in KINDS:
            for word in ["options", "choice", "moved", "wiped"]:
                store = two_live_blocks(kind, Fewest())
                store.__class__ = put_otherwise(kind, **{word: refuse})
                self.assertIs(refusal_of(store.make_room).__class__, BlockFailed)
                self.assertEqual(store.papers, [])


if __name__ == "__main__":
    unittest.main()
