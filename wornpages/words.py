"""The words about numbers that the whole program shares."""

# Spreads, clearings and deeds are all bounded by this one number.
MOST_TOLD = 1000000


def is_whole(thing):
    """Whether a thing of any kind is a whole number."""
    # Python counts True and False among its ints.
    return isinstance(thing, int) and not isinstance(thing, bool)


def is_within(thing, low, high):
    """Whether a thing is a whole number from low to high."""
    return is_whole(thing) and low <= thing <= high


def is_shape(blocks, pages):
    """Whether a chip, and so the terms for one, may have so many blocks of so many pages."""
    return is_within(blocks, 2, 16) and is_within(pages, 1, 16)


def is_value(thing):
    """Whether a thing is a value that a store keeps."""
    return is_within(thing, 0, 10 ** 30 - 1)
