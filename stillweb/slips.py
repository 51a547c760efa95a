"""Slips: what the messenger writes down of where it was asked from."""

from stillweb.errors import NoStep
from stillweb.webs import depth_at


class Book:
    """The slips of a messenger on its way."""

    def __init__(self, slips):
        self.rows = list(slips)
        # The first number of each slip, made when one is first written: most moves write none.
        self.numbers = None

    def number_for(self, slip):
        """The number of a slip that is written: of the one that is there, the first one, or else behind all."""
        if self.numbers is None:
            self.numbers = {}
            for k, there in enumerate(self.rows):
                self.numbers.setdefault(there, k)
        if slip not in self.numbers:
            self.numbers[slip] = len(self.rows)
            self.rows.append(slip)
        return self.numbers[slip]

    def entry_for(self, slip):
        """The entry that stands for a slip that is written."""
        return ("slip", self.number_for(slip))

    def all_slips(self):
        """All slips, in order."""
        return tuple(self.rows)


def slip_for(slips, slip):
    """The number of a slip, and the slips with it: the one that is there, or else a new one behind all."""
    book = Book(slips)
    k = book.number_for(slip)
    return k, book.all_slips()


def own_slip(gate):
    """A rec's own slip."""
    return gate, ()


def slip_at_hand(entries, book):
    """The slip at hand in a tape or log, or None."""
    if entries and entries[0][0] == "slip":
        return book.rows[entries[0][1]]
    return None


def names_slip(web, binder, entries, book):
    """The slip at hand in a tape or log, which must be one of the binder's names."""
    slip = slip_at_hand(entries, book)
    if slip is None:
        raise NoStep()
    gate, kept = slip
    # Only names are bound, so a gate that is bound is a name's.
    if web[gate][5] != binder or len(kept) != depth_at(web, gate):
        raise NoStep()
    return slip
