"""Going back: from a stop to the one from which it was come to."""

from stillweb.errors import NoStep
from stillweb.gates import is_leaf, number_at, number_at_hand, part_for
from stillweb.heads import come_to
from stillweb.routes import gate_for, is_route, routed, turned_about
from stillweb.slips import Book


def back(web, values, stop, slips):
    """The last stop, and the slips that are then there."""
    book = Book(slips)
    last = last_stop(web, values, stop, book)
    return last, book.all_slips()


def last_stop(web, values, stop, book):
    """The last stop; slips are written in the book."""
    turned = turned_about(stop)
    gate, which = gate_for(web, turned)
    if is_route(web[gate][0]):
        return turned_about(routed(web, turned, book))
    # Where something is reckoned, there is no tape.
    if stop[3]:
        raise NoStep()
    if which is None:
        return before_telling(web, values, stop)
    return before_asking(web, gate, which, stop)


def before_telling(web, values, stop):
    """The last stop of one that is out at a num, an input, an op or an if."""
    wire, way, value, tape, log, roll = stop
    if value is None:
        raise NoStep()
    if is_leaf(web, wire):
        if value != number_at(web, values, wire):
            raise NoStep()
        return (wire, "in", None, tape, log, roll)
    if not roll:
        raise NoStep()
    n, m = reckoned_of(web[wire], value, roll[-1])
    part = part_for(web[wire][0], n)
    return (web[wire][2][part], "out", m, tape, (("num", n),) + log, roll[:-1])


def reckoned_of(gate, value, numbers):
    """What an op or an if has told this value of, by the numbers in the roll: those of its part 0 and the other."""
    word, note = gate[:2]
    if word == "if":
        if len(numbers) != 1:
            raise NoStep()
        return numbers[0], value
    if len(numbers) != 2 or come_to(note, numbers[0], numbers[1]) != value:
        raise NoStep()
    return numbers


def before_asking(web, gate, which, stop):
    """The last stop of one that is in at a part of an op or an if."""
    wire, way, value, tape, log, roll = stop
    if value is not None:
        raise NoStep()
    if which == 0:
        return (gate, "in", value, tape, log, roll)
    n = number_at_hand(log)
    word, note, inside = web[gate][:3]
    if which != part_for(word, n):
        raise NoStep()
    return (inside[0], "out", n, tape, log[1:], roll)
