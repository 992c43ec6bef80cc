"""What the tests of several points share."""

import inspect
import types

from wornpages.chip import Chip
from wornpages.coming import book_of
from wornpages.desk import Desk
from wornpages.errors import Full, PowerGone, WornError
from wornpages.marks import ROLL, mark_of, name_of, stamp_of
from wornpages.rules import Eldest, Fewest, Follow, Order, Rule, Turned, Weighed, Window, Worth
from wornpages.terms import Terms

MILLION = 1000000

# Big enough that Python refuses to write it out as figures.
HUGE = 10 ** 5000

NOT_WHOLE = [True, False, None, "", "1", "one", 1.0, [1], (1,), [], (), {}, {1: 1}, object(), int]


def state_of(chip):
    """All that can be told of a chip without changing it, in the dark or not."""
    blocks = range(chip.blocks)
    dark = chip.is_dark()
    pages = None if dark else pages_of(chip)
    return (dark, pages, [chip.cleared(b) for b in blocks], [chip.failed(b) for b in blocks], chip.deeds())


def pages_of(chip):
    """What each page of a chip reads as."""
    return [chip.read(page) for page in range(chip.blocks * chip.pages)]


def refusal_of(ask, *values):
    """The error with which an ask is refused; None where it is not."""
    try:
        ask(*values)
    except ValueError as refusal:
        return refusal
    return None


def deeds_of(chip, ask, *values):
    """The deeds that an ask does, refused or not."""
    before = len(chip.deeds())
    refusal_of(ask, *values)
    return chip.deeds()[before:]


def fail_block(chip, block):
    """Let a block whose ill says that it does no more deeds fail, without a page being written."""
    refusal_of(chip.wipe, block)


def wiped_chip(pages, wipes, failed=()):
    """A clear chip of blocks that were wiped so often, and of which these have failed."""
    chip = Chip(len(wipes), pages, 100, [(block, wipes[block]) for block in failed])
    for block, times in enumerate(wipes):
        for turn in range(times):
            chip.wipe(block)
    for block in failed:
        fail_block(chip, block)
    return chip


def arguments_of(ask):
    """The names of the arguments of a function or class."""
    return list(inspect.signature(ask).parameters)


def truths_of(rule, one, other, pages, now):
    """What a rule answers for two tallies, both ways."""
    return (rule.goes_ahead(one, other, pages, now), rule.goes_ahead(other, one, pages, now))


def drawn_tallies(draw, count, pages, top):
    """So many tallies by a source of chance, in rising order of their blocks, all below top but the blocks and live."""
    blocks = sorted(draw.sample(range(16), count))
    return [(block, draw.randint(0, pages), draw.randrange(top), draw.randrange(top)) for block in blocks]


def put_otherwise(kind, **methods):
    """A class under a store's class, with some of its methods put otherwise."""
    return type("Other", (kind,), methods)


def noted(store, names_by_block):
    """Tell the book of a store alone, block by block, which names its pages were put with; None stands for a page that
    is dead from the begin."""
    pages = store.book.pages
    for block, names in names_by_block:
        for name in names:
            # A page of a name that has no live page afterwards is dead.
            store.book.note(block * pages + store.book.filled[block], 63 if name is None else name)
            if name is None:
                store.book.forget(63)
    return store


def two_live_blocks(kind, rule, ill=0, ills=None):
    """A store of four pages a block. Block 0 bears the sheets 0, 1, 2 and a dead page; block 1 a roll with the bits of
    these, a dead page, and the sheets 4 and 5; block 2, the part, the sheets 6, 7 and 8. The rest is free. The value
    of a sheet is 100 and its number."""
    store = kind(Chip(4 + ill, 4, MILLION, ills), Terms(4 + ill, 4, 20, 10, ill), rule)
    for sheet in [0, 1, 2, 3]:
        store.write(sheet, 100 + sheet)
    store.give_up([3])
    for sheet in [4, 4, 5, 6, 7, 8]:
        store.write(sheet, 100 + sheet)
    return store


def laid(blocks, pages, rows):
    """A chip on which pages were laid by hand: (page, stamp, name, value)."""
    chip = Chip(blocks, pages)
    for page, stamp, name, value in rows:
        chip.put(page, (mark_of(stamp, name), value))
    return chip


def book_by_the_words(chip):
    """What point 71 says of a chip, found in another way than by a book."""
    pages = range(chip.blocks * chip.pages)
    borne = [(page,) + chip.read(page) for page in pages if chip.read(page) is not None]
    newest = {}
    for page, mark, value in borne:
        name = name_of(mark)
        if name not in newest or stamp_of(mark) > newest[name][0]:
            newest[name] = (stamp_of(mark), page, value)
    roll = newest.get(ROLL)
    where = {name: page for name, (stamp, page, value) in newest.items()
             if name == ROLL or roll is None or stamp > roll[0] or roll[2] >> name & 1}
    blocks = range(chip.blocks)
    stamps = {page: stamp_of(mark) for page, mark, value in borne}
    return (
        sorted(where.items()),
        [sum(page // chip.pages == block for page in where.values()) for block in blocks],
        [sum(page // chip.pages == block for page in stamps) for block in blocks],
        [stamps.get(block * chip.pages, 0) for block in blocks],
        max(stamps.values(), default=0) + 1,
    )


def drawn_chip(draw):
    """A chip that lies well, with pages drawn by chance: no store need have laid them so."""
    blocks = draw.randint(2, 5)
    pages = draw.randint(1, 5)
    chip = Chip(blocks, pages)
    places = [block * pages + page for block in range(blocks) for page in range(draw.randint(0, pages))]
    first = draw.choice([0, 10 ** 38])
    stamps = [first + stamp for stamp in sorted(draw.sample(range(1, 100), len(places)))]
    # The stamps rise within each block; otherwise the blocks are mingled.
    rows = {block: [page for page in places if page // pages == block] for block in range(blocks)}
    for stamp in stamps:
        page = rows[draw.choice([block for block in rows if rows[block]])].pop(0)
        name = draw.choice([ROLL] + list(range(6)) + [63])
        value = draw.getrandbits(7) + (draw.getrandbits(1) << 63) if name == ROLL else draw.randrange(10 ** 30)
        chip.put(page, (mark_of(stamp, name), value))
    return chip


def reads_of(store):
    """What each sheet of a store reads as."""
    return [store.read(sheet) for sheet in range(store.terms.sheets)]


class NotingRule(Rule):
    """A rule that chooses as another one does, and notes what it is asked."""

    def __init__(self, rule):
        self.within = rule
        self.asks = []

    def goes_ahead(self, one, other, pages, now):
        return self.within.goes_ahead(one, other, pages, now)

    def choose(self, tallies, pages, now):
        self.asks.append((tallies[:], pages, now))
        return self.within.choose(tallies, pages, now)


class Watched(Chip):
    """A chip that notes behind each deed how far its good blocks' clearings differ, and how many of them are free."""

    def __init__(self, blocks, pages, most=MILLION, ills=None):
        Chip.__init__(self, blocks, pages, most, ills)
        self.written = [0] * blocks
        self.seen = []

    def look(self):
        good = [block for block in range(self.blocks) if not self.failed(block)]
        cleared = [self.cleared(block) for block in good] or [0]
        free = [block for block in good if self.written[block] == 0]
        self.seen.append((max(cleared) - min(cleared), len(free), self.blocks - len(good)))

    def put(self, page, stuff):
        try:
            Chip.put(self, page, stuff)
            self.written[page // self.pages] += 1
        finally:
            self.look()

    def wipe(self, block):
        try:
            Chip.wipe(self, block)
            self.written[block] = 0
        finally:
            self.look()


def desk_told(*rows):
    """A desk that was told these rows, and answered them all."""
    desk = Desk()
    for row in rows:
        desk.say(row)
    return desk


def drawn_rule(draw):
    """A rule of any sort by a source of chance."""
    plain = [Rule, Fewest, Eldest, Worth]
    odd = draw.randrange(1, 9)
    return draw.choice([
        draw.choice(plain)(), Window(draw.randint(1, 5)), Turned(draw.choice(plain)()),
        Order([draw.choice(plain)(), Turned(draw.choice(plain)())]), Turned(Window(draw.randint(1, 5))),
        Follow([draw.randrange(6) for turn in range(40)]), Weighed(lambda tally: sum(tally) * odd % 7),
    ])


def drawn_terms(draw, ills=(0, 1, 2), spreads=(1, 1, 2, 5)):
    """Small terms by a source of chance, often with the greatest share."""
    while True:
        ill = draw.choice(ills)
        blocks = ill + draw.randint(2, 5)
        pages = draw.randint(1, 5)
        most = (blocks - 1 - ill) * pages - 2
        if most >= 1:
            share = draw.choice([most, most, draw.randint(1, most)])
            return Terms(blocks, pages, share + draw.randint(0, 2), share, ill, draw.choice(spreads))


def drawn_race(draw):
    """The blocks, the pages and the row of a race by a source of chance, often with rows as long as they may be."""
    blocks, pages = draw.choice([(2, 3), (3, 2), (3, 3), (4, 1), (4, 2), (4, 3)])
    closed = (blocks - 1) * pages
    sheets = draw.sample(range(64), draw.randint(1, closed - 2))
    length = draw.choice([closed + 6, closed + 6, draw.randint(0, closed + 6)])
    return blocks, pages, [draw.choice(sheets) for turn in range(length)]


class Usage:
    """A store that is used by asks that are drawn by chance, and what each sheet should read as by then."""

    def __init__(self, store, draw):
        self.draw = draw
        self.values = {}
        self.rooms = 0
        # Whether the power has gone since a page was last put for an ask that was told done.
        self.went = False
        self.use(store)

    def use(self, store):
        """Go on with this store; its makings of room are counted."""
        make_room = store.make_room

        def counted():
            self.rooms += 1
            return make_room()

        store.make_room = counted
        self.store = store
        self.chip = store.chip

    def drawn_ask(self):
        """The word of an ask, and what is handed in."""
        sheets = self.store.terms.sheets
        if self.draw.random() < 0.85:
            return "write", (self.draw.randrange(sheets), self.draw.randrange(1000))
        many = self.draw.choice([0, 1, 1, 2, 3, sheets])
        return "give_up", ([self.draw.randrange(sheets) for turn in range(many)],)

    def ask(self):
        """What came of an ask: its refusal or None, whether it had a page to put, its makings, papers and deeds."""
        word, handed = self.drawn_ask()
        self.note_dark()
        self.rooms = 0
        papers = len(self.store.papers)
        deeds = len(self.chip.deeds())
        told = types.SimpleNamespace(refusal=None, word=word, handed=handed, answer=None)
        told.puts = word == "write" or any(sheet in self.values for sheet in handed[0])
        told.full = word == "write" and handed[0] not in self.values and len(self.values) == self.store.terms.share
        told.gone = 0 if word == "write" else len(set(handed[0]) & set(self.values))
        try:
            told.answer = getattr(self.store, word)(*handed)
            self.done(word, handed)
        except WornError as refusal:
            told.refusal = refusal.__class__
        told.went = self.went = self.went or (self.chip.is_dark() and told.refusal is not None)
        if told.refusal is None and told.puts:
            self.went = self.chip.is_dark()
        told.rooms = self.rooms
        told.papers = self.store.papers[papers:]
        told.deeds = self.chip.deeds()[deeds:]
        return told

    def done(self, word, handed):
        """What was told done is read from then on."""
        if word == "write":
            self.values[handed[0]] = handed[1]
        else:
            for sheet in handed[0]:
                self.values.pop(sheet, None)

    def cut(self, chance):
        """Let the power go soon, by chance."""
        if self.draw.random() < chance:
            self.note_dark()
            self.chip.cut_after(self.draw.choice([0, 1, 2, 3, 5, 8]))

    def note_dark(self):
        self.went = self.went or self.chip.is_dark()

    def power_on(self):
        self.note_dark()
        self.chip.power_on()

    def reads(self):
        """What is held and read, and what should be; the book in hand, and the one that is found."""
        sheets = range(self.store.terms.sheets)
        told = (self.store.held(), [self.store.read(sheet) for sheet in sheets], self.store.book.tell())
        due = (sorted(self.values), [self.values.get(sheet) for sheet in sheets], book_of(self.chip).tell())
        return told, due


def deeds_told(papers):
    """The deeds of makings of room that were done to their end, as their papers tell them."""
    deeds = []
    for why, options, block, moved, wiped in papers:
        deeds += [("put", there, True) for name, here, there in moved] + [("wipe", block, wiped)]
    return deeds


def without_failed_puts(deeds):
    return [deed for deed in deeds if deed[0] == "wipe" or deed[2]]


class AskChecks:
    """What holds of every ask of a store that makes room; for classes of tests."""

    refusals = [None, Full, PowerGone]

    def checked(self, usage, chance):
        """What came of an ask, with power that may go at any of its deeds, and is on afterwards."""
        usage.cut(chance)
        told = usage.ask()
        self.assertIn(told.refusal, self.refusals)
        self.assertEqual(told.refusal is Full, told.full)
        self.check_deeds(usage, told)
        usage.power_on()
        read, due = usage.reads()
        self.assertEqual(read, due)
        return told

    def check_deeds(self, usage, told):
        """The deeds are those of the papers, and behind them the ask's own page, or a making cut short."""
        made = deeds_told(told.papers)
        deeds = without_failed_puts(told.deeds)
        rest = deeds[len(made):]
        self.assertEqual(deeds[:len(made)], made)
        if told.refusal is None:
            page = usage.store.book.where[told.handed[0] if told.word == "write" else ROLL] if told.puts else None
            self.assertEqual(rest, [("put", page, True)] if told.puts else [])
            self.assertEqual(told.answer, page if told.word == "write" else told.gone)
        elif told.refusal is Full:
            self.assertEqual((told.deeds, told.rooms), ([], 0))
        else:
            # A wipe that was done has its paper.
            self.assertNotIn(("wipe", True), [(deed[0], deed[2]) for deed in rest])
