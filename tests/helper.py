"""What the tests of several points share."""

import inspect

MILLION = 1000000

# Big enough that Python refuses to write it out as figures.
HUGE = 10 ** 5000

NOT_WHOLE = [True, False, None, "", "1", "one", 1.0, [1], (1,), [], (), {}, {1: 1}, object(), int]


def state_of(chip):
    """All that can be told of a chip without changing it, in the dark or not."""
    blocks = range(chip.blocks)
    dark = chip.is_dark()
    pages = None if dark else pages_of(chip)
    return (dark, pages, [chip.cleared(b) for b in blocks], [chip.failed(b) for b in blocks], chip.deeds())


def pages_of(chip):
    """What each page of a chip reads as."""
    return [chip.read(page) for page in range(chip.blocks * chip.pages)]


def refusal_of(ask, *values):
    """The error with which an ask is refused; None where it is not."""
    try:
        ask(*values)
    except ValueError as refusal:
        return refusal
    return None


def deeds_of(chip, ask, *values):
    """The deeds that an ask does, refused or not."""
    before = len(chip.deeds())
    refusal_of(ask, *values)
    return chip.deeds()[before:]


def fail_block(chip, block):
    """Let a block whose ill says that it does no more deeds fail, without a page being written."""
    refusal_of(chip.wipe, block)


def arguments_of(ask):
    """The names of the arguments of a function or class."""
    return list(inspect.signature(ask).parameters)


def truths_of(rule, one, other, pages, now):
    """What a rule answers for two tallies, both ways."""
    return (rule.goes_ahead(one, other, pages, now), rule.goes_ahead(other, one, pages, now))


def drawn_tallies(draw, count, pages, top):
    """So many tallies by a source of chance, in rising order of their blocks, all below top but the blocks and live."""
    blocks = sorted(draw.sample(range(16), count))
    return [(block, draw.randint(0, pages), draw.randrange(top), draw.randrange(top)) for block in blocks]
