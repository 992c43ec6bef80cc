"""A desk: it is told rows of words, and answers each with a text."""

from wornpages.chip import Chip
from wornpages.coming import come_up
from wornpages.errors import NoRow, NoSheet
from wornpages.looker import faults
from wornpages.marks import is_sheet
from wornpages.parts import Parts
from wornpages.races import least_moves, moves_by
from wornpages.rows import head_of, rest_of, rule_of, things_of, words_of
from wornpages.store import pages_moved
from wornpages.sure import Sure
from wornpages.terms import Terms


def numbers_told(numbers):
    """Numbers with blanks between."""
    if numbers == []:
        return "none"
    return " ".join([str(number) for number in numbers])


def value_told(value):
    """What is read."""
    return "none" if value is None else str(value)


def take_new(desk, things):
    chip = Chip(things[0], things[1], things[6], things[7:])
    terms = Terms(things[0], things[1], things[2], things[3], things[4], things[5])
    desk.settle(Sure(chip, terms, desk.rule_anew()), [])
    return "ok"


def take_rule(desk, things):
    # A rule that is refused is so here, ahead of any change.
    rule = rule_of(things)
    desk.rule_words = things
    if desk.store is not None:
        desk.store.take(rule)
    return "ok"


def write(desk, things):
    return str(desk.store.write(things[0], things[1]))


def read(desk, things):
    return value_told(desk.store.read(things[0]))


def give(desk, things):
    return str(desk.store.give_up(things))


def tell_held(desk, things):
    return numbers_told(desk.store.held())


def tell_failed(desk, things):
    chip = desk.store.chip
    return numbers_told([block for block in range(chip.blocks) if chip.failed(block)])


def tell_wear(desk, things):
    chip = desk.store.chip
    return numbers_told([chip.cleared(block) for block in range(chip.blocks)])


def tell_moves(desk, things):
    return str(pages_moved(desk.store.papers))


def tell_rooms(desk, things):
    return str(len(desk.store.papers))


def cut_power(desk, things):
    desk.store.chip.cut_after(things[0])
    return "ok"


def put_power_on(desk, things):
    desk.store.chip.power_on()
    return "ok"


def come_up_anew(desk, things):
    chip = desk.store.chip
    chip.power_on()
    desk.settle(come_up(chip, desk.store.terms, desk.rule_anew()), desk.parts.told())
    return "ok"


def look(desk, things):
    for sheet, page in things:
        if not is_sheet(sheet):
            raise NoSheet("sheets are from 0 to 63")
    found = faults(desk.store.chip, things)
    if found == []:
        return "sound"
    return "; ".join([f"{sheet} {page} {sort}" for sheet, page, sort in found])


def race(desk, things):
    row = things[2:]
    moves = moves_by(things[0], things[1], row, desk.rule_anew())
    least = least_moves(things[0], things[1], row)
    return numbers_told([moves[0], least[0]])


def lay_parts(desk, things):
    rows = [(things[place], things[place + 1], things[place + 2]) for place in range(0, len(things), 3)]
    desk.settle(desk.store, rows)
    return "ok"


def write_in_part(desk, things):
    return str(desk.parts.write(things[0], things[1], things[2]))


def read_in_part(desk, things):
    return value_told(desk.parts.read(things[0], things[1]))


def give_in_part(desk, things):
    return str(desk.parts.give_up(things[0], things[1:]))


def tell_held_in_part(desk, things):
    return numbers_told(desk.parts.held(things[0]))


def empty_part(desk, things):
    return str(desk.parts.empty(things[0]))


def tell_room_in_part(desk, things):
    return str(desk.parts.room(things[0]))


def shift_share(desk, things):
    desk.parts.shift(things[0], things[1], things[2])
    return "ok"


# By what a row is known by: its words, as things_of reads them, and what answers it.
ROWS = {
    "new": ("nnnnnnn", "p", take_new),
    "rule": ("", "w", take_rule),
    "write": ("nn", "", write),
    "read": ("n", "", read),
    "give": ("", "n", give),
    "held": ("", "", tell_held),
    "failed": ("", "", tell_failed),
    "wear": ("", "", tell_wear),
    "moves": ("", "", tell_moves),
    "rooms": ("", "", tell_rooms),
    "cut": ("n", "", cut_power),
    "on": ("", "", put_power_on),
    "up": ("", "", come_up_anew),
    "look": ("", "p", look),
    "race": ("nn", "n", race),
    "parts": ("", "wnn", lay_parts),
    "in write": ("wnn", "", write_in_part),
    "in read": ("wn", "", read_in_part),
    "in give": ("w", "n", give_in_part),
    "in held": ("w", "", tell_held_in_part),
    "in empty": ("w", "", empty_part),
    "in room": ("w", "", tell_room_in_part),
    "shift": ("wwn", "", shift_share),
}

WITHOUT_STORE = ("new", "rule", "race")


class Desk:
    """A store that is asked by rows of words, with the rule and the parts that it was told."""

    def __init__(self):
        self.rule_words = ["fewest"]
        self.store = None
        self.parts = None

    def say(self, row):
        """The answer to a row."""
        words = words_of(row)
        head = head_of(words)
        if head not in ROWS:
            raise NoRow("there is no such row")
        form = ROWS[head]
        things = things_of(rest_of(words), form[0], form[1])
        if self.store is None and head not in WITHOUT_STORE:
            raise NoRow("there is no store yet")
        answer = form[2]
        return answer(self, things)

    def rule_anew(self):
        """The rule of the desk, which has been asked nothing yet."""
        return rule_of(self.rule_words)

    def settle(self, store, told):
        """Go on with a store, and with these parts laid on it."""
        # Parts that are refused leave the store and the parts that there were.
        self.parts = Parts(store, told)
        self.store = store
