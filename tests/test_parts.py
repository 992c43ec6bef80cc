"""Points 90 to 93: parts of a store's sheets, with shares of their own."""

import unittest

from tests.helper import HUGE, MILLION, NOT_WHOLE, arguments_of, deeds_of, fail_block, refusal_of, state_of
from wornpages.chip import Chip
from wornpages.errors import Full, NoPart, NoRoom, NoSheet, NoValue, PowerGone, WornOut
from wornpages.even import Even
from wornpages.parts import Parts
from wornpages.plain import Plain
from wornpages.rules import Fewest
from wornpages.store import Store
from wornpages.sure import Sure
from wornpages.terms import Terms

ROWS = [("red", 4, 3), ("blue", 2, 2), ("green", 5, 4)]

# Whatever may be handed in as a name where there is none such; texts that come near one too.
NO_NAMES = ["", "re", "redd", "Red", "RED", " red", "red ", "purple", "red\n", 0, 1, -1, 3, True, False, None, HUGE,
            1.0, ["red"], ("red",), {}]


def store_of(kind=Sure, ills=None, ill=1, most=MILLION):
    """A store of 20 sheets and a share of 12 on a chip of six blocks with four pages."""
    chip = Chip(6, 4, most, ills)
    terms = Terms(6, 4, 20, 12, ill)
    return kind(chip, terms) if kind is Plain else kind(chip, terms, Fewest())


def parts_of(**told):
    return Parts(store_of(**told), list(ROWS))


def worn_parts():
    """Parts on a worn store: red is full, blue holds one sheet."""
    parts = parts_of(ills=[(4, 0), (5, 0)])
    for name, sheet in [("red", 0), ("red", 1), ("red", 2), ("blue", 0)]:
        parts.write(name, sheet, 70)
    for block in [4, 5]:
        fail_block(parts.store.chip, block)
    return parts


def all_of(parts):
    """All that can be told of parts and their store."""
    names = [row[0] for row in parts.told()]
    chip = parts.store.chip
    return (parts.told(), [(parts.held(name), parts.room(name), parts.share_of(name)) for name in names],
            parts.store.held(), parts.store.book.tell(), state_of(chip))


class Checks(unittest.TestCase):
    def refused(self, error, parts, ask, *values):
        """Refused with this error, and nothing is changed by it."""
        before = all_of(parts)
        self.assertIs(refusal_of(ask, *values).__class__, error, (ask, values[:2]))
        self.assertEqual(all_of(parts), before)


class Telling(Checks):
    def taken(self, told, sheets=20, share=12):
        store = Sure(Chip(6, 4), Terms(6, 4, sheets, share), Fewest())
        before = (state_of(store.chip), store.book.tell())
        handed = list(told)
        parts = Parts(store, told)
        self.assertEqual(parts.told(), handed)
        self.assertEqual(told, handed)
        self.assertEqual((state_of(store.chip), store.book.tell()), before)
        return parts

    def no_parts(self, told, sheets=20, share=12):
        store = Sure(Chip(6, 4), Terms(6, 4, sheets, share), Fewest())
        self.assertIs(refusal_of(Parts, store, told).__class__, NoPart)

    def test_arguments(self):
        self.assertEqual(arguments_of(Parts), ["store", "told"])
        for ask, names in [("write", ["name", "sheet", "value"]), ("read", ["name", "sheet"]), ("empty", ["name"]),
                           ("give_up", ["name", "sheets"]), ("held", ["name"]), ("room", ["name"]), ("told", []),
                           ("share_of", ["name"]), ("shift", ["one", "other", "many"])]:
            self.assertEqual(arguments_of(getattr(Parts, ask)), ["self"] + names)

    def test_lists_of_parts(self):
        for told in [[], [("a", 1, 1)], [("z", 20, 12)], [("abcdefgh", 3, 9)], list(ROWS), list(ROWS)[::-1],
                     [("a", 1, 1), ("aa", 1, 1), ("b", 1, 1)]]:
            self.taken(told)

    def test_a_share_above_the_sheets_of_the_part(self):
        parts = self.taken([("red", 1, 5), ("blue", 2, 7)])
        self.assertEqual((parts.room("red"), parts.share_of("blue")), (5, 7))

    def test_no_list(self):
        for told in [None, 3, True, "", "red", "abc", (), (("red", 1, 1),), {}, {"red": (1, 1)}, ("red", 1, 1)]:
            self.no_parts(told)

    def test_no_tuples_of_three(self):
        for row in [None, 3, True, "", "abc", (), ("red",), ("red", 1), ("red", 1, 1, 1), ["red", 1, 1], [], {},
                    {"red": 1, "blue": 2, "green": 3}, (("red", 1, 1),), {"a": 1}]:
            self.no_parts([row])
            self.no_parts([("blue", 1, 1), row])
            self.no_parts([row, ("blue", 1, 1)])

    def test_names(self):
        for name in ["", "abcdefghi", "Red", "reD", "RED", "r d", " red", "red ", "red1", "1", "r_d", "r-d", "red\n",
                     "\tred", "`", "{", "a{", "`a", "@", "[", None, 1, True, ("r",), ["r"], {}, HUGE]:
            self.no_parts([(name, 1, 1)])
            self.no_parts([("blue", 1, 1), (name, 1, 1)])

    def test_sheets_and_shares(self):
        for number in [0, -1, -20, -HUGE, HUGE] + NOT_WHOLE:
            self.no_parts([("red", number, 1)])
            self.no_parts([("red", 1, number)])
            self.no_parts([("red", 1, 1), ("blue", number, 1)])
            self.no_parts([("red", 1, 1), ("blue", 1, number)])

    def test_numbers_that_would_make_up_for_one_another(self):
        self.no_parts([("red", 21, 1), ("blue", -1, 1)])
        self.no_parts([("red", 1, 13), ("blue", 1, -1)])

    def test_no_name_twice(self):
        self.no_parts([("red", 1, 1), ("red", 1, 1)])
        self.no_parts([("red", 1, 1), ("blue", 1, 1), ("red", 2, 3)])

    def test_all_sheets_together(self):
        self.taken([("red", 20, 1)])
        self.no_parts([("red", 21, 1)])
        self.taken([("red", 7, 1), ("blue", 6, 1), ("green", 7, 1)])
        self.no_parts([("red", 7, 1), ("blue", 7, 1), ("green", 7, 1)])
        self.taken([("red", 1, 2)], sheets=1, share=2)
        self.no_parts([("red", 1, 1), ("blue", 1, 1)], sheets=1, share=2)

    def test_all_shares_together(self):
        self.taken([("red", 1, 12)])
        self.no_parts([("red", 1, 13)])
        self.taken([("red", 1, 4), ("blue", 1, 4), ("green", 1, 4)])
        self.no_parts([("red", 1, 4), ("blue", 1, 4), ("green", 1, 5)])
        self.taken([("red", 1, 18)], share=18)
        self.no_parts([("red", 1, 18)], share=17)

    def test_a_list_that_is_changed_behind(self):
        told = list(ROWS)
        parts = Parts(store_of(), told)
        told.clear()
        self.assertEqual(parts.told(), ROWS)
        parts.told().clear()
        self.assertEqual(parts.told(), ROWS)

    def test_kinds(self):
        for row in parts_of().told():
            self.assertEqual([row.__class__] + [thing.__class__ for thing in row], [tuple, str, int, int])

    def test_no_parts_at_all(self):
        parts = Parts(store_of(), [])
        for name in NO_NAMES + ["red", "blue"]:
            self.assertIs(refusal_of(parts.held, name).__class__, NoPart)

    def test_on_each_class_of_stores_and_in_the_dark(self):
        for kind in [Plain, Store, Even, Sure]:
            store = store_of(kind)
            store.chip.cut_after(0)
            parts = Parts(store, list(ROWS))
            store.chip.power_on()
            self.assertEqual((parts.write("blue", 1, 70), store.read(5), parts.read("blue", 1)), (0, 70, 70))
            self.assertEqual((parts.empty("blue"), store.held()), (1, []))


class Lying(Checks):
    def test_where_the_sheets_of_each_part_lie(self):
        parts = parts_of()
        first = 0
        for name, sheets, share in ROWS:
            for sheet in [0, sheets - 1]:
                self.assertEqual(parts.write(name, sheet, 100 + sheet), parts.store.book.where[first + sheet])
                self.assertEqual(parts.store.read(first + sheet), 100 + sheet)
                self.assertEqual(parts.read(name, sheet), 100 + sheet)
            first += sheets
        self.assertEqual(parts.store.held(), [0, 3, 4, 5, 6, 10])

    def test_what_is_held_by_the_parts_own_numbers(self):
        parts = parts_of()
        self.assertEqual([parts.held(row[0]) for row in ROWS], [[], [], []])
        for sheet in [10, 0, 5, 6, 3]:
            parts.store.write(sheet, 9)
        self.assertEqual([parts.held(row[0]) for row in ROWS], [[0, 3], [1], [0, 4]])
        self.assertEqual([parts.room(row[0]) for row in ROWS], [1, 1, 2])

    def test_sheets_behind_the_last_part(self):
        store = store_of()
        for sheet in [11, 19]:
            store.write(sheet, 9)
        parts = Parts(store, list(ROWS))
        self.assertEqual([(parts.held(row[0]), parts.room(row[0])) for row in ROWS], [([], 3), ([], 2), ([], 4)])
        self.assertIs(refusal_of(parts.read, "green", 5).__class__, NoSheet)
        self.assertEqual([parts.empty(row[0]) for row in ROWS], [0, 0, 0])
        self.assertEqual(store.held(), [11, 19])

    def test_laid_on_a_store_that_holds_sheets(self):
        store = store_of()
        for sheet in [4, 0, 1, 2, 3, 12]:
            store.write(sheet, 100 + sheet)
        parts = Parts(store, list(ROWS))
        # The part red holds more than its share.
        self.assertEqual([parts.held(row[0]) for row in ROWS], [[0, 1, 2, 3], [0], []])
        self.assertEqual([parts.room(row[0]) for row in ROWS], [0, 1, 4])
        self.assertEqual([parts.read("red", sheet) for sheet in range(4)], [100, 101, 102, 103])
        self.assertEqual(parts.give_up("red", [0]), 1)
        self.assertEqual((parts.room("red"), refusal_of(parts.write, "red", 0, 1).__class__), (0, Full))
        self.assertEqual(parts.give_up("red", [1]), 1)
        self.assertEqual(parts.room("red"), 1)

    def test_the_store_is_used_by_itself_too(self):
        parts = parts_of()
        parts.store.write(1, 70)
        self.assertEqual((parts.read("red", 1), parts.room("red")), (70, 2))
        parts.write("red", 1, 71)
        self.assertEqual(parts.store.read(1), 71)
        parts.store.give_up([1])
        self.assertEqual((parts.read("red", 1), parts.room("red")), (None, 3))

    def test_two_lists_of_parts_on_one_store(self):
        store = store_of()
        one = Parts(store, list(ROWS))
        other = Parts(store, [("red", 5, 6), ("green", 5, 6)])
        one.write("blue", 0, 70)
        self.assertEqual((other.held("red"), other.read("red", 4)), ([4], 70))
        one.shift("red", "green", 1)
        self.assertEqual(other.told(), [("red", 5, 6), ("green", 5, 6)])

    def test_answers_are_the_askers_own(self):
        parts = parts_of()
        parts.write("red", 2, 70)
        held = parts.held("red")
        parts.write("red", 1, 71)
        self.assertEqual(held, [2])
        held.append(3)
        self.assertEqual(parts.held("red"), [1, 2])


class Asking(Checks):
    def test_answers_are_the_stores(self):
        parts = parts_of()
        pages = [parts.write("blue", 0, 70), parts.write("green", 4, 71), parts.write("blue", 0, 72)]
        self.assertEqual(pages, [0, 1, 2])
        self.assertEqual([parts.read("blue", 0), parts.read("blue", 1), parts.read("green", 4)], [72, None, 71])
        self.assertEqual(parts.give_up("blue", [0, 1, 0]), 1)
        self.assertEqual(parts.give_up("blue", [0, 1]), 0)
        self.assertEqual(parts.give_up("green", []), 0)
        self.assertEqual(parts.store.held(), [10])

    def test_a_giving_up_is_one_roll(self):
        parts = parts_of()
        for sheet in [0, 1, 3]:
            parts.write("red", sheet, 70)
        parts.write("blue", 0, 71)
        handed = [1, 3, 2]
        self.assertEqual(deeds_of(parts.store.chip, parts.give_up, "red", handed), [("put", 4, True)])
        self.assertEqual(handed, [1, 3, 2])
        self.assertEqual((parts.held("red"), parts.held("blue")), ([0], [0]))

    def test_emptying(self):
        parts = parts_of()
        for name in ["red", "blue"]:
            for sheet in [0, 1]:
                parts.write(name, sheet, 70)
        chip = parts.store.chip
        self.assertEqual(deeds_of(chip, parts.empty, "green"), [])
        self.assertEqual(deeds_of(chip, parts.empty, "red"), [("put", 4, True)])
        self.assertEqual((parts.held("red"), parts.held("blue"), parts.room("red")), ([], [0, 1], 3))
        self.assertEqual((parts.empty("red"), parts.empty("blue"), parts.empty("green")), (0, 2, 0))
        self.assertEqual(parts.store.held(), [])

    def test_emptying_leaves_what_lies_in_no_part(self):
        parts = parts_of()
        parts.store.write(15, 70)
        parts.write("green", 4, 71)
        self.assertEqual(parts.empty("green"), 1)
        self.assertEqual(parts.store.held(), [15])

    def test_names_that_are_none(self):
        parts = parts_of()
        parts.write("red", 0, 70)
        for name in NO_NAMES:
            for values in [(0, 1), (99, 1), (None, None), (0, -1)]:
                self.refused(NoPart, parts, parts.write, name, *values)
            for sheet in [0, 99, True]:
                self.refused(NoPart, parts, parts.read, name, sheet)
            for sheets in [[], [0], [99], [None]]:
                self.refused(NoPart, parts, parts.give_up, name, sheets)
            for ask in [parts.empty, parts.held, parts.room, parts.share_of]:
                self.refused(NoPart, parts, ask, name)

    def test_sheets_that_are_none_of_the_parts(self):
        parts = parts_of()
        for sheet in range(4):
            parts.store.write(sheet, 70)
        for name, sheets, share in ROWS:
            for sheet in [-1, sheets, sheets + 1, 19, 64, HUGE, -HUGE] + NOT_WHOLE:
                for value in [5, -1, None]:
                    self.refused(NoSheet, parts, parts.write, name, sheet, value)
                self.refused(NoSheet, parts, parts.read, name, sheet)
                self.refused(NoSheet, parts, parts.give_up, name, [sheet])
                self.refused(NoSheet, parts, parts.give_up, name, [0, sheet, 1])

    def test_values_that_are_none(self):
        parts = parts_of()
        for sheet in [0, 1]:
            parts.write("blue", sheet, 70)
        for value in [-1, 10 ** 30, HUGE] + NOT_WHOLE:
            for name, sheet in [("blue", 0), ("red", 0)]:
                self.refused(NoValue, parts, parts.write, name, sheet, value)
        parts.write("red", 3, 10 ** 30 - 1)
        parts.write("red", 2, 0)
        self.assertEqual((parts.read("red", 3), parts.read("red", 2)), (10 ** 30 - 1, 0))

    def test_no_value_ahead_of_full(self):
        parts = parts_of()
        for sheet in [0, 1, 2]:
            parts.write("red", sheet, 70)
        self.refused(NoValue, parts, parts.write, "red", 3, -1)
        self.refused(Full, parts, parts.write, "red", 3, 1)

    def test_full_by_the_parts_share(self):
        parts = parts_of()
        for sheet in [0, 1, 2]:
            parts.write("red", sheet, 70)
        self.refused(Full, parts, parts.write, "red", 3, 1)
        # What is held is written on, and others have their own room.
        parts.write("red", 1, 71)
        parts.write("green", 3, 72)
        parts.give_up("red", [0])
        parts.write("red", 3, 73)
        self.assertEqual(parts.held("red"), [1, 2, 3])
        self.refused(Full, parts, parts.write, "red", 0, 1)

    def test_full_by_the_store_itself(self):
        parts = parts_of()
        for sheet in [11, 12, 13, 14, 15, 16, 17, 18, 19, 0, 1, 4]:
            parts.store.write(sheet, 9)
        self.assertEqual(parts.room("green"), 4)
        self.refused(Full, parts, parts.write, "green", 0, 1)
        parts.write("red", 0, 1)

    def test_no_room_in_a_plain_store(self):
        parts = parts_of(kind=Plain)
        for turn in range(24):
            parts.write("red", 0, turn)
        self.refused(NoRoom, parts, parts.write, "red", 0, 1)
        self.refused(NoRoom, parts, parts.empty, "red")
        self.refused(NoRoom, parts, parts.give_up, "red", [0])
        self.assertEqual((parts.give_up("red", [1]), parts.empty("blue"), parts.read("red", 0)), (0, 0, 23))

    def test_in_the_dark(self):
        parts = parts_of()
        for sheet in [0, 1, 2]:
            parts.write("red", sheet, 70)
        parts.store.chip.cut_after(0)
        self.refused(PowerGone, parts, parts.write, "red", 0, 1)
        self.refused(PowerGone, parts, parts.write, "blue", 0, 1)
        self.refused(PowerGone, parts, parts.read, "red", 0)
        self.refused(PowerGone, parts, parts.give_up, "red", [0])
        self.refused(PowerGone, parts, parts.empty, "red")
        self.refused(NoPart, parts, parts.write, "pink", 0, 1)
        self.refused(NoSheet, parts, parts.write, "red", 4, 1)
        self.refused(NoValue, parts, parts.write, "red", 0, -1)
        self.refused(Full, parts, parts.write, "red", 3, 1)
        self.assertEqual((parts.read("red", 3), parts.read("blue", 0)), (None, None))
        self.assertEqual((parts.empty("blue"), parts.give_up("red", [3]), parts.give_up("red", [])), (0, 0, 0))
        self.assertEqual((parts.held("red"), parts.room("red"), parts.share_of("red")), ([0, 1, 2], 0, 3))

    def test_on_a_worn_store(self):
        parts = worn_parts()
        self.assertIs(parts.store.worn(), True)
        self.refused(WornOut, parts, parts.write, "red", 0, 1)
        self.refused(WornOut, parts, parts.write, "blue", 1, 1)
        self.refused(WornOut, parts, parts.give_up, "red", [0])
        self.refused(WornOut, parts, parts.empty, "red")
        self.refused(Full, parts, parts.write, "red", 3, 1)
        self.refused(NoSheet, parts, parts.give_up, "red", [4])
        self.assertEqual((parts.read("red", 0), parts.empty("green"), parts.give_up("blue", [1])), (70, 0, 0))
        self.assertEqual((parts.held("red"), parts.room("blue")), ([0, 1, 2], 1))


class Shifting(Checks):
    def shifted(self, parts, one, other, many, due):
        chip = parts.store.chip
        before = (state_of(chip), parts.store.book.tell())
        together = sum(share for name, sheets, share in parts.told())
        self.assertIsNone(parts.shift(one, other, many))
        self.assertEqual([parts.share_of(row[0]) for row in ROWS], due)
        self.assertEqual(parts.told(), [(row[0], row[1], share) for row, share in zip(ROWS, due)])
        self.assertEqual(sum(due), together)
        self.assertEqual((state_of(chip), parts.store.book.tell()), before)

    def test_to_another_part(self):
        parts = parts_of()
        self.shifted(parts, "red", "blue", 1, [2, 3, 4])
        self.shifted(parts, "red", "green", 1, [1, 3, 5])
        self.shifted(parts, "green", "red", 4, [5, 3, 1])
        self.shifted(parts, "blue", "green", 2, [5, 1, 3])

    def test_the_room_goes_with_it(self):
        parts = parts_of()
        for sheet in [0, 1]:
            parts.write("blue", sheet, 70)
            parts.write("red", sheet, 70)
        self.shifted(parts, "red", "green", 1, [2, 2, 5])
        self.assertEqual([parts.room(row[0]) for row in ROWS], [0, 0, 5])
        self.assertIs(refusal_of(parts.write, "red", 2, 1).__class__, Full)
        for sheet in range(5):
            parts.write("green", sheet, 70)
        parts.give_up("green", [4])
        self.shifted(parts, "green", "red", 1, [3, 2, 4])
        self.assertEqual(parts.write("red", 2, 1), parts.store.book.where[2])

    def test_to_itself(self):
        parts = parts_of()
        for many in [1, 2]:
            self.shifted(parts, "red", "red", many, [3, 2, 4])
        for many in [3, 4]:
            self.refused(Full, parts, parts.shift, "red", "red", many)
        for many in [0, -1, True]:
            self.refused(NoValue, parts, parts.shift, "red", "red", many)
        self.refused(NoPart, parts, parts.shift, "pink", "pink", 1)
        parts.write("red", 0, 70)
        parts.write("red", 1, 70)
        self.shifted(parts, "red", "red", 1, [3, 2, 4])
        self.refused(Full, parts, parts.shift, "red", "red", 2)

    def test_names_that_are_none(self):
        parts = parts_of()
        for name in NO_NAMES:
            for many in [1, 0, None, 99]:
                self.refused(NoPart, parts, parts.shift, name, "red", many)
                self.refused(NoPart, parts, parts.shift, "red", name, many)
                self.refused(NoPart, parts, parts.shift, name, name, many)

    def test_no_value(self):
        parts = parts_of()
        parts.write("blue", 0, 70)
        parts.write("blue", 1, 70)
        for many in [0, -1, -HUGE] + NOT_WHOLE:
            self.refused(NoValue, parts, parts.shift, "red", "blue", many)
            # The part that gives could spare nothing, but that is asked later.
            self.refused(NoValue, parts, parts.shift, "blue", "red", many)

    def test_a_share_of_one_is_left(self):
        parts = parts_of()
        for many in [3, 4, 100, HUGE]:
            self.refused(Full, parts, parts.shift, "red", "blue", many)
        self.shifted(parts, "red", "blue", 2, [1, 4, 4])
        self.refused(Full, parts, parts.shift, "red", "blue", 1)

    def test_what_is_held_is_left(self):
        parts = parts_of()
        for sheet in [0, 1]:
            parts.write("red", sheet, 70)
        self.refused(Full, parts, parts.shift, "red", "blue", 2)
        self.shifted(parts, "red", "blue", 1, [2, 3, 4])
        self.refused(Full, parts, parts.shift, "red", "blue", 1)

    def test_a_part_that_holds_more_than_its_share(self):
        store = store_of()
        for sheet in range(4):
            store.write(sheet, 70)
        parts = Parts(store, list(ROWS))
        self.refused(Full, parts, parts.shift, "red", "blue", 1)
        self.refused(Full, parts, parts.shift, "red", "red", 1)
        self.shifted(parts, "green", "red", 1, [4, 2, 3])
        self.refused(Full, parts, parts.shift, "red", "blue", 1)
        self.shifted(parts, "green", "red", 1, [5, 2, 2])
        self.assertEqual(parts.room("red"), 1)
        self.shifted(parts, "red", "blue", 1, [4, 3, 2])

    def test_in_the_dark_and_on_a_worn_store(self):
        dark = parts_of()
        dark.write("red", 0, 70)
        dark.store.chip.cut_after(0)
        worn = worn_parts()
        worn.shift("blue", "green", 1)
        for parts in [dark, worn]:
            self.refused(Full, parts, parts.shift, "red", "blue", 3)
            self.refused(NoValue, parts, parts.shift, "red", "blue", 0)
            self.refused(NoPart, parts, parts.shift, "red", "pink", 1)
        self.shifted(dark, "red", "blue", 2, [1, 4, 4])
        self.shifted(worn, "green", "blue", 4, [3, 5, 1])


if __name__ == "__main__":
    unittest.main()
