"""Leaps: a messenger whose slips keep the whole log, so that it leaps back to where it was asked from."""

from stillweb.gates import next_stop
from stillweb.routes import gate_for, name_asked, parted, rec_begun
from stillweb.slips import slip_at_hand
from stillweb.walk import gone_through

# The boxes in which a slip is at hand, by the gate's word and which part of it they are.
LEAPT_OUT_OF = (("call", 1), ("let", 0), ("rec", 0))


def leapt(web, values, most):
    """The number that the leaping walk of a web comes out with, its stops, and its slips."""
    return gone_through(leaping_stop, web, values, most)


def leaping_stop(web, values, stop, book):
    """The next stop of a messenger who leaps; slips are written in the book."""
    gate, which = gate_for(web, stop)
    word = web[gate][0]
    wire, way, value, tape, log, roll = stop
    if which is None and word == "name":
        taken, rest = parted(web, gate, log)
        return name_asked(web, gate, stop, book.entry_for((gate, log)), rest)
    if which is None and word == "rec":
        return rec_begun(web, gate, stop, book.entry_for((gate, log)))
    slip = slip_at_hand(log, book)
    if (word, which) in LEAPT_OUT_OF and slip is not None:
        asker, kept = slip
        return (asker, "out", value, tape, kept, roll)
    return next_stop(web, values, stop, book)
