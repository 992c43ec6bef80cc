"""A store that lives on when blocks of its chip fail."""

from wornpages.errors import BlockFailed, WornOut
from wornpages.even import Even


class Sure(Even):
    """An even store that does without as many blocks as its terms say may fail."""

    def failures(self):
        """How many blocks of the chip have failed."""
        return self.terms.blocks - len(self.good())

    def worn(self):
        """Whether more blocks have failed than may."""
        return self.failures() > self.terms.ill

    def reserve(self):
        # A block that has failed is no longer to be made up for.
        return 1 + self.terms.ill - self.failures()

    def lay(self, name, value):
        """Put a value under a name, on another spot wherever a block fails at it; the page."""
        page = None
        while page is None:
            page = self.set_down_or_fail(name, value)
        return page

    def set_down_or_fail(self, name, value):
        """Put a value under a name on the spot; the page, or None where the block failed at it."""
        try:
            return self.set_down(name, value)
        except BlockFailed:
            self.check_worn()
            return None

    def wiped(self, block):
        """Wipe a block that has no live page; whether that was done, and did not make the block fail."""
        try:
            self.clear_out(block)
        except BlockFailed:
            self.check_worn()
            return False
        return True

    def make_ready(self):
        """Make room as long as the store is not ready; a worn store refuses at once."""
        self.check_worn()
        self.make_rooms()

    def check_worn(self):
        if self.worn():
            raise WornOut("more blocks have failed than may")
