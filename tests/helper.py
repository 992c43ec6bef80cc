"""What the tests of several points share."""

MILLION = 1000000

# Big enough that Python refuses to write it out as figures.
HUGE = 10 ** 5000

NOT_WHOLE = [True, False, None, "", "1", "one", 1.0, [1], (1,), [], (), {}, {1: 1}, object(), int]


def state_of(chip):
    """All that can be told of a chip without changing it, in the dark or not."""
    blocks = range(chip.blocks)
    dark = chip.is_dark()
    pages = None if dark else pages_of(chip)
    return (dark, pages, [chip.cleared(b) for b in blocks], [chip.failed(b) for b in blocks], chip.deeds())


def pages_of(chip):
    """What each page of a chip reads as."""
    return [chip.read(page) for page in range(chip.blocks * chip.pages)]


def refusal_of(ask, *values):
    """The error with which an ask is refused; None where it is not."""
    try:
        ask(*values)
    except ValueError as refusal:
        return refusal
    return None
