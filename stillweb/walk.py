"""Walks: from the door of a web to its end, and back."""

from stillweb.backs import last_stop
from stillweb.errors import NoStep, TooLong
from stillweb.gates import next_stop
from stillweb.slips import Book

DOOR = (0, "in", None, (), (), ())


def walked(web, values, most):
    """The number that the walk of a web comes out with, its stops, and its slips."""
    return gone_through(next_stop, web, values, most)


def gone_through(move, web, values, most):
    """What `walked` tells, by moves of any sort."""
    book = Book(())
    stops = [DOOR]
    while not is_end(stops[-1]):
        then = move(web, values, stops[-1], book)
        # Only now: where there is no next stop, no more moves would come.
        if len(stops) > most:
            raise TooLong(most)
        stops.append(then)
    return stops[-1][2], stops, book.all_slips()


def is_end(stop):
    """Whether a stop is one at which a walk comes out with a number."""
    wire, way, value, tape, log, roll = stop
    return wire == 0 and way == "out" and value is not None and tape == () and log == ()


def moved_or_none(move, web, values, stop, book):
    """The stop to which a move leads, or None where there is none."""
    try:
        return move(web, values, stop, book)
    except NoStep:
        return None


def retraced(web, values, stop, slips, most):
    """The stops gone back from a stop, that one first, and the slips at the end."""
    book = Book(slips)
    stops = [stop]
    last = moved_or_none(last_stop, web, values, stop, book)
    while last is not None:
        if len(stops) > most:
            raise TooLong(most)
        stops.append(last)
        last = moved_or_none(last_stop, web, values, last, book)
    return stops, book.all_slips()


def gone(web, stops):
    """How many of the stops are in, and how many out, at each wire."""
    ins = [0] * len(web)
    outs = [0] * len(web)
    for stop in stops:
        wire, way = stop[:2]
        if way == "in":
            ins[wire] += 1
        else:
            outs[wire] += 1
    return list(zip(ins, outs))
