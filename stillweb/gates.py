"""Going on: from a stop to the next one."""

from stillweb.errors import NoStep
from stillweb.heads import come_to
from stillweb.routes import gate_for, is_route, routed
from stillweb.slips import Book


def on(web, values, stop, slips):
    """The next stop, and the slips that are then there."""
    book = Book(slips)
    then = next_stop(web, values, stop, book)
    return then, book.all_slips()


def next_stop(web, values, stop, book):
    """The next stop; slips are written in the book."""
    gate, which = gate_for(web, stop)
    if is_route(web[gate][0]):
        return routed(web, stop, book)
    # Where something is reckoned, there is no tape.
    if stop[3]:
        raise NoStep()
    if which is None:
        return asked(web, values, stop)
    return told(web, gate, which, stop)


def asked(web, values, stop):
    """The next stop of one that is in at a num, an input, an op or an if."""
    wire, way, value, tape, log, roll = stop
    if value is not None:
        raise NoStep()
    if is_leaf(web, wire):
        return (wire, "out", number_at(web, values, wire), tape, log, roll)
    return (web[wire][2][0], "in", value, tape, log, roll)


def told(web, gate, which, stop):
    """The next stop of one that is out at a part of an op or an if."""
    wire, way, value, tape, log, roll = stop
    if value is None:
        raise NoStep()
    word, note, inside = web[gate][:3]
    if which == 0:
        return (inside[part_for(word, value)], "in", None, tape, (("num", value),) + log, roll)
    n = number_at_hand(log)
    if which != part_for(word, n):
        raise NoStep()
    if word == "op":
        return (gate, "out", come_to(note, n, value), tape, log[1:], roll + ((n, value),))
    return (gate, "out", value, tape, log[1:], roll + ((n,),))


def is_leaf(web, wire):
    """Whether the gate tells a number by itself."""
    return web[wire][0] in ("num", "input")


def number_at(web, values, wire):
    """The number that a num or an input tells."""
    word, note = web[wire][:2]
    return values[note] if word == "input" else note


def part_for(word, n):
    """Which part of an op or an if is asked when its part 0 has told n."""
    return 1 if word == "op" or n != 0 else 2


def number_at_hand(log):
    """The number at hand in a log."""
    if not log or log[0][0] != "num":
        raise NoStep()
    return log[0][1]
