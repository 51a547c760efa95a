"""Slips: what the messenger writes down of where it was asked from."""

from stillweb.errors import NoStep
from stillweb.webs import depth_at


def slip_for(slips, slip):
    """The number of a slip, and the slips with it: the one that is there, or else a new one behind all."""
    for k, there in enumerate(slips):
        if there == slip:
            return k, slips
    return len(slips), slips + (slip,)


def entry_for(slips, slip):
    """The entry that stands for a slip, and the slips with it."""
    k, then = slip_for(slips, slip)
    return ("slip", k), then


def own_slip(gate):
    """A rec's own slip."""
    return gate, ()


def slip_at_hand(entries, slips):
    """The slip at hand in a tape or log, or None."""
    if entries and entries[0][0] == "slip":
        return slips[entries[0][1]]
    return None


def names_slip(web, binder, entries, slips):
    """The slip at hand in a tape or log, which must be one of the binder's names."""
    slip = slip_at_hand(entries, slips)
    if slip is None:
        raise NoStep()
    gate, kept = slip
    # Only names are bound, so a gate that is bound is a name's.
    if web[gate][5] != binder or len(kept) != depth_at(web, gate):
        raise NoStep()
    return slip
