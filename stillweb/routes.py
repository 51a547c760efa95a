"""Routes: the moves by which nothing is reckoned.

Gone back, each of them is one of them gone on, the ways turned about: so going back needs no routes of its own.
"""

from stillweb.errors import NoStep
from stillweb.slips import names_slip, own_slip, slip_at_hand
from stillweb.webs import depth_at

ON = ("on",)


def gate_for(web, stop):
    """The gate by which a stop goes on, and which of its parts the stop's wire is; None where it goes in."""
    wire, way = stop[:2]
    if way == "in":
        return wire, None
    above = web[wire][3]
    if above is None:
        raise NoStep()
    return above, web[above][2].index(wire)


def turned_about(stop):
    """The stop with its way turned about."""
    wire, way = stop[:2]
    return (wire, "out" if way == "in" else "in") + stop[2:]


def is_route(word):
    """Whether nothing is reckoned at gates of this word."""
    return word in ("fn", "call", "let", "rec", "name")


def routed(web, stop, book):
    """The next stop, by a gate at which nothing is reckoned; slips are written in the book."""
    gate, which = gate_for(web, stop)
    route = ROUTES[(web[gate][0], which)]
    return route(web, gate, stop, book)


def into_fn(web, gate, stop, book):
    """In at a fn: on into its b, or to the name that asked for what it is given."""
    wire, way, value, tape, log, roll = stop
    if tape[:1] == (ON,):
        return (web[gate][2][0], "in", value, tape[1:], log, roll)
    name, kept = names_slip(web, gate, tape, book)
    return (name, "out", value, tape[1:], kept + log, roll)


def out_of_fn(web, gate, stop, book):
    """Out of the b of a fn."""
    wire, way, value, tape, log, roll = stop
    return (gate, "out", value, (ON,) + tape, log, roll)


def into_call(web, gate, stop, book):
    """In at a call: to what it calls."""
    wire, way, value, tape, log, roll = stop
    return (web[gate][2][0], "in", value, (ON,) + tape, log, roll)


def out_of_called(web, gate, stop, book):
    """Out of the f of a call: on, or down into what it is given."""
    wire, way, value, tape, log, roll = stop
    if not tape:
        raise NoStep()
    if tape[0] == ON:
        return (gate, "out", value, tape[1:], log, roll)
    return (web[gate][2][1], "in", value, tape[1:], tape[:1] + log, roll)


def out_of_given(web, gate, stop, book):
    """Out of the a of a call: back down into the f that asked."""
    wire, way, value, tape, log, roll = stop
    if not log or log[0][0] == "num":
        raise NoStep()
    return (web[gate][2][0], "in", value, log[:1] + tape, log[1:], roll)


def into_let(web, gate, stop, book):
    """In at a let: to its b."""
    return (web[gate][2][1], "in") + stop[2:]


def out_of_let(web, gate, stop, book):
    """Out of the b of a let."""
    return (gate, "out") + stop[2:]


def out_to_name(web, gate, stop, book):
    """Out of the a of a let, or the b of a rec, to the name that asked."""
    wire, way, value, tape, log, roll = stop
    name, kept = names_slip(web, gate, log, book)
    return (name, "out", value, tape, kept + log[1:], roll)


def into_rec(web, gate, stop, book):
    """In at a rec: to its b, so that it comes out by the rec's own slip."""
    return rec_begun(web, gate, stop, book.entry_for(own_slip(gate)))


def rec_begun(web, gate, stop, entry):
    """In at the b of a rec, by this entry."""
    wire, way, value, tape, log, roll = stop
    return (web[gate][2][0], "in", value, tape, (entry,) + log, roll)


def out_of_rec(web, gate, stop, book):
    """Out of the b of a rec: on, or to the name that asked."""
    wire, way, value, tape, log, roll = stop
    if slip_at_hand(log, book) == own_slip(gate):
        return (gate, "out", value, tape, log[1:], roll)
    return out_to_name(web, gate, stop, book)


def into_name(web, gate, stop, book):
    """In at a name: to what it stands for, by way of what binds it."""
    kept, rest = parted(web, gate, stop[4])
    return name_asked(web, gate, stop, book.entry_for((gate, kept)), rest)


def parted(web, gate, log):
    """What a name takes off a log, and the rest."""
    depth = depth_at(web, gate)
    if len(log) < depth:
        raise NoStep()
    return log[:depth], log[depth:]


def name_asked(web, gate, stop, entry, rest):
    """From a name to what it stands for, by this entry, with the rest of the log."""
    wire, way, value, tape, log, roll = stop
    binder = web[gate][5]
    if web[binder][0] == "fn":
        return (binder, "out", value, (entry,) + tape, rest, roll)
    # Part 0 is the a of a let, and the b of a rec.
    return (web[binder][2][0], "in", value, tape, (entry,) + rest, roll)


# By the gate's word, and which part of it the wire is; None where the messenger goes in.
ROUTES = {
    ("fn", None): into_fn,
    ("fn", 0): out_of_fn,
    ("call", None): into_call,
    ("call", 0): out_of_called,
    ("call", 1): out_of_given,
    ("let", None): into_let,
    ("let", 0): out_to_name,
    ("let", 1): out_of_let,
    ("rec", None): into_rec,
    ("rec", 0): out_of_rec,
    ("name", None): into_name,
}
