"""Races: short rows of writings on small stores, and how few pages can be moved in them."""

from wornpages.chip import Chip
from wornpages.errors import NoRace
from wornpages.marks import is_sheet
from wornpages.rules import Follow
from wornpages.store import Store, pages_moved
from wornpages.terms import Terms
from wornpages.words import is_within


def is_row(thing):
    """Whether a thing is a list of sheets."""
    return isinstance(thing, list) and all([is_sheet(sheet) for sheet in thing])


def closed_pages(blocks, pages):
    """The pages of all blocks but one."""
    return (blocks - 1) * pages


def check_race(blocks, pages, row):
    """Refuse what is no race."""
    if not is_within(blocks, 2, 4) or not is_within(pages, 1, 3):
        raise NoRace("a race has 2 to 4 blocks of 1 to 3 pages")
    if closed_pages(blocks, pages) < 3:
        raise NoRace("all blocks but one have 3 pages at least")
    if not is_row(row):
        raise NoRace("a row is a list of sheets")
    check_length(blocks, pages, len(row))
    check_unlike(blocks, pages, row)


def check_length(blocks, pages, length):
    if length > closed_pages(blocks, pages) + 6:
        raise NoRace("a row has at most six sheets more than all blocks but one have pages")


def check_unlike(blocks, pages, sheets):
    if len(set(sheets)) > closed_pages(blocks, pages) - 2:
        raise NoRace("a row has at most as many unlike sheets as may be held at once")


def check_tails(blocks, pages, row, sheets, more):
    """Refuse tails that cannot stand behind a row."""
    if not is_row(sheets) or not is_within(len(sheets), 1, 3):
        raise NoRace("a tail is made of a list of one to three sheets")
    if not is_within(more, 0, 3):
        raise NoRace("a tail has 0 to 3 sheets")
    check_length(blocks, pages, len(row) + more)
    check_unlike(blocks, pages, row + sheets)


def papers_of_race(blocks, pages, row, rule):
    """The papers of the store on which a race is run by a rule."""
    terms = Terms(blocks, pages, 64, closed_pages(blocks, pages) - 2)
    store = Store(Chip(blocks, pages), terms, rule)
    for sheet in row:
        store.write(sheet, 0)
    return store.papers


def outcome_of(papers):
    """How many pages were moved, and which blocks were chosen."""
    return (pages_moved(papers), chosen_in(papers))


def chosen_in(papers):
    return [paper[2] for paper in papers]


def moves_by(blocks, pages, row, rule):
    """How many pages a rule moves in a race, and the list of the blocks that it chooses."""
    check_race(blocks, pages, row)
    return outcome_of(papers_of_race(blocks, pages, row, rule))


def least_moves(blocks, pages, row):
    """The same of that way to choose that moves the fewest pages, of several such the first one."""
    check_race(blocks, pages, row)
    best = None
    way = []
    while way is not None:
        papers = papers_of_race(blocks, pages, row, Follow(way))
        outcome = outcome_of(papers)
        # Ways come in the order of lists, so one that moves just as many pages as the best comes too late.
        if best is None or outcome[0] < best[0]:
            best = outcome
        way = next_way(papers, best[0])
    return best


def next_way(papers, bound):
    """How the first way behind that of the papers begins that may move fewer pages than the bound; None where there is
    none. Beyond its begin a way takes the first option, as a rule that follows does."""
    for place in range(len(papers) - 1, -1, -1):
        begin = papers[:place]
        moves = pages_moved(begin)
        for tally in papers[place][1]:
            # All live pages of a block that is chosen are moved.
            if tally[0] > papers[place][2] and moves + tally[1] < bound:
                return chosen_in(begin) + [tally[0]]
    return None


def beaten_by(blocks, pages, row, rule):
    """How many pages a rule moves more in a race than the least."""
    return moves_by(blocks, pages, row, rule)[0] - least_moves(blocks, pages, row)[0]


def tails_of(sheets, more):
    """All rows of so many sheets out of a list, in the order of their places in it."""
    tails = [[]]
    for turn in range(more):
        longer = []
        for tail in tails:
            longer.extend([tail + [sheet] for sheet in sheets])
        tails = longer
    return tails


def tail_that_beats(blocks, pages, row, sheets, more, rule):
    """The first tail behind a row by which a rule is beaten, as (tail, moves, least); None where there is none."""
    check_race(blocks, pages, row)
    check_tails(blocks, pages, row, sheets, more)
    for tail in tails_of(sheets, more):
        moves = moves_by(blocks, pages, row + tail, rule)[0]
        least = least_moves(blocks, pages, row + tail)[0]
        if moves > least:
            return (tail, moves, least)
    return None
