"""The refusals of the program, one class for each."""


class WornError(ValueError):
    """Any refusal."""


class NoChip(WornError):
    """A chip cannot be made of this."""


class NoPlace(WornError):
    """There is no such page or block."""


class PowerGone(WornError):
    """The chip is dark."""


class BlockFailed(WornError):
    """No deed is done on a block that has failed."""

    def __init__(self, block):
        WornError.__init__(self, f"block {block} has failed")
        self.block = block


class NotClear(WornError):
    """Only a clear page is put."""

    def __init__(self, page):
        WornError.__init__(self, f"page {page} is not clear")
        self.page = page


class NoTerms(WornError):
    """Terms cannot be made of this, or do not fit the chip."""


class NoSheet(WornError):
    """There is no such sheet."""


class NoValue(WornError):
    """A number is out of its bounds, or is no whole number."""


class Full(WornError):
    """As many sheets are held as the share allows."""


class NoRoom(WornError):
    """There is no room for another page."""


class WornOut(WornError):
    """More blocks have failed than the terms allow."""


class NoRule(WornError):
    """A rule cannot be made of this."""


class NoRace(WornError):
    """A race cannot be made of this."""


class NoPart(WornError):
    """There is no such part, or parts cannot be made of this."""


class NoRow(WornError):
    """A desk does not know such a row."""
