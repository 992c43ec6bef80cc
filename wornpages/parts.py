"""Parts: stretches of a store's sheets, each with a share of its own."""

from wornpages.errors import Full, NoPart, NoSheet, NoValue
from wornpages.words import is_value, is_whole, is_within


def is_name(thing):
    """Whether a thing is a text of one to eight small letters."""
    if not isinstance(thing, str) or not 1 <= len(thing) <= 8:
        return False
    return all(["a" <= sign <= "z" for sign in thing])


def is_from_one(thing):
    """Whether a thing is a whole number from 1 on."""
    return is_whole(thing) and thing >= 1


def check_told(told, terms):
    """Refuse what is no list of parts for a store with these terms."""
    if not isinstance(told, list):
        raise NoPart("parts are told as a list")
    for row in told:
        check_row(row)
    if len(set([row[0] for row in told])) < len(told):
        raise NoPart("two parts have one name")
    if sum([row[1] for row in told]) > terms.sheets:
        raise NoPart("the parts have more sheets than the store")
    if sum([row[2] for row in told]) > terms.share:
        raise NoPart("the parts have a greater share than the store")


def check_row(row):
    """Refuse what tells no part."""
    if not isinstance(row, tuple) or len(row) != 3:
        raise NoPart("a part is told by its name, its sheets and its share")
    if not is_name(row[0]):
        raise NoPart("a name has one to eight small letters")
    if not is_from_one(row[1]) or not is_from_one(row[2]):
        raise NoPart("a part has one sheet at least, and a share of one at least")


class Parts:
    """Parts that lie one behind another in the sheets of a store, and take no room from one another."""

    def __init__(self, store, told):
        check_told(told, store.terms)
        self.store = store
        # Each dict goes by the parts' names, in the order in which they were told.
        self.firsts = {}
        self.counts = {}
        self.shares = {}
        first = 0
        for name, sheets, share in told:
            self.firsts[name] = first
            self.counts[name] = sheets
            self.shares[name] = share
            first += sheets

    def write(self, name, sheet, value):
        """Keep a value by a sheet of a part; the page."""
        place = self.place_of(name, sheet)
        if not is_value(value):
            raise NoValue("a value is a whole number from 0 to below 10 ** 30")
        if self.room(name) == 0 and sheet not in self.held(name):
            raise Full("the part holds as many sheets as its share allows")
        return self.store.write(place, value)

    def read(self, name, sheet):
        """The value of a sheet of a part, None where it is not held."""
        return self.store.read(self.place_of(name, sheet))

    def give_up(self, name, sheets):
        """Hold the sheets of a list no more; how many of them were held."""
        self.check_part(name)
        return self.store.give_up([self.place_of(name, sheet) for sheet in sheets])

    def empty(self, name):
        """Give up all that a part holds; how many sheets that were."""
        return self.give_up(name, self.held(name))

    def held(self, name):
        """The sheets of a part that are held, rising, by the part's numbers."""
        self.check_part(name)
        first = self.firsts[name]
        return [sheet - first for sheet in self.store.held() if first <= sheet < first + self.counts[name]]

    def room(self, name):
        """How many sheets more a part may hold."""
        return max(0, self.share_of(name) - len(self.held(name)))

    def share_of(self, name):
        """How many sheets a part may hold at once."""
        self.check_part(name)
        return self.shares[name]

    def shift(self, one, other, many):
        """Give so much of one part's share to another part."""
        self.check_part(one)
        self.check_part(other)
        if not is_from_one(many):
            raise NoValue("a share of one at least is given")
        if self.shares[one] - many < max(1, len(self.held(one))):
            raise Full("the part that gives needs its share")
        self.shares[one] -= many
        self.shares[other] += many

    def told(self):
        """The rows (name, sheets, share) of the parts as they are now."""
        return [(name, self.counts[name], share) for name, share in self.shares.items()]

    def place_of(self, name, sheet):
        """The store's sheet that is a sheet of a part."""
        self.check_part(name)
        if not is_within(sheet, 0, self.counts[name] - 1):
            raise NoSheet("there is no such sheet in the part")
        return self.firsts[name] + sheet

    def check_part(self, name):
        # Whatever is handed in as a name may be no text at all, and then it is not looked up.
        if not isinstance(name, str) or name not in self.shares:
            raise NoPart("there is no such part")
