"""Crossing: parts as webs of their own, and webs gone through with whatever is in the pack."""

from stillweb.errors import TooLong
from stillweb.gates import next_stop
from stillweb.slips import Book


def part_web(web, w):
    """The web of the part at gate w, or None where a name in it is bound outside of it."""
    gates = []
    for at in range(w, last_in(web, w) + 1):
        word, note, inside, above, level, bound = web[at]
        if bound is not None and bound < w:
            return None
        inside = tuple(k - w for k in inside)
        above = None if at == w else above - w
        bound = None if bound is None else bound - w
        gates.append((word, note, inside, above, level - web[w][4], bound))
    return tuple(gates)


def last_in(web, w):
    """The last gate that stands in the part at gate w; all between stand in it too."""
    at = w
    while web[at][2]:
        at = web[at][2][-1]
    return at


def crossed(web, values, value, tape, slips, most):
    """The value and tape with which a web is come out of, the slips, and how many moves were made."""
    book = Book(slips)
    told = across(web, values, value, tape, book, most)
    if told is None:
        raise TooLong(most)
    then_value, then_tape, moves = told
    return then_value, then_tape, book.all_slips(), moves


def across(web, values, value, tape, book, most):
    """The value and tape with which a web is come out of, and how many moves were made; None where more
    than `most` come."""
    stop = (0, "in", value, tape, (), ())
    moves = 0
    while stop[:2] != (0, "out"):
        stop = next_stop(web, values, stop, book)
        moves += 1
        if moves > most:
            return None
    return stop[2], stop[3], moves
