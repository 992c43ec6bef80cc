"""Marks tell a stamp and a name; bits tell which sheets are held."""

from wornpages.words import is_within

# The name of a page that is a roll: one above the last sheet that there may be.
ROLL = 64

# The least number of names that fits 0 to ROLL and is a power of two.
NAMES = 128


def is_sheet(thing):
    """Whether a thing is a sheet that some store may have."""
    return is_within(thing, 0, ROLL - 1)


def mark_of(stamp, name):
    """The mark that tells a stamp and a name."""
    return stamp * NAMES + name


def stamp_of(mark):
    """The stamp that a mark tells."""
    return mark // NAMES


def name_of(mark):
    """The name that a mark tells."""
    return mark % NAMES


def bits_of(sheets):
    """The whole number in which bit k is 1 just where sheet k is in the list."""
    bits = 0
    for sheet in sheets:
        bits = bits | (1 << sheet)
    return bits


def sheets_of(bits):
    """The rising list of the sheets whose bits are 1."""
    return [sheet for sheet in range(bits.bit_length()) if (bits >> sheet) & 1 == 1]
