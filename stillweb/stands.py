"""Stands: stops but for their numbers, and the machine whose rows they are."""

from stillweb.errors import TooMany
from stillweb.gates import is_leaf, next_stop
from stillweb.routes import gate_for
from stillweb.slips import Book
from stillweb.walk import DOOR


def numbers_of(stop, slips):
    """The numbers of a stop, in order."""
    wire, way, value, tape, log, roll = stop
    found = [] if value is None else [value]
    found.extend([entry[1] for entry in unfolded(tape + log, slips) if entry[0] == "num"])
    return found


def unfolded(entries, slips):
    """The entries in order, right behind each slip those that are in it."""
    found = []
    # The last one put there is the next one taken; slips may lie too deep in one another for calls.
    due = list(entries[::-1])
    while due:
        entry = due.pop()
        found.append(entry)
        if entry[0] == "slip":
            due.extend(slips[entry[1]][1][::-1])
    return found


def one_stand(stop, slips, other, others):
    """Whether two stops, each with its slips, are at one stand."""
    return stand_of(stop, slips) == stand_of(other, others)


def stand_of(stop, slips):
    """A stop but for its numbers: flat, so that it can be a key however deep slips lie in one another."""
    wire, way, value, tape, log, roll = stop
    words = [bare(entry, slips) for entry in unfolded(tape + log, slips)]
    return (wire, way, value is None, len(tape), tuple(words))


def bare(entry, slips):
    """An entry but for its number; a slip by its gate and how many entries it has."""
    if entry[0] != "slip":
        return entry[0]
    gate, kept = slips[entry[1]]
    return (gate, len(kept))


class Survey:
    """The stands of a web that are come to, each with a row and a stop that is there.

    The numbers of these stops are marks, each made once: so it can be seen where each of them goes.
    """

    def __init__(self, web, most):
        self.web = web
        self.most = most
        self.book = Book(())
        self.marks = 0
        self.rows_by_stand = {}
        self.stops = []

    def row_at(self, stop):
        """The number of the row of a stop's stand."""
        stand = stand_of(stop, self.book.rows)
        if stand not in self.rows_by_stand:
            if len(self.stops) == self.most:
                raise TooMany(self.most)
            self.rows_by_stand[stand] = len(self.stops)
            self.stops.append(stop)
        return self.rows_by_stand[stand]

    def new_mark(self):
        """A mark for a number that is new."""
        self.marks += 1
        return self.marks

    def deed_at(self, stop):
        """By what a stop's row leads on."""
        wire, way, value, tape, log, roll = stop
        if (wire, way) == (0, "out"):
            return ("end",)
        gate, which = gate_for(self.web, stop)
        word, note, inside = self.web[gate][:3]
        if which is None and is_leaf(self.web, gate):
            then = (gate, "out", self.new_mark(), tape, log, roll)
            return ("put" if word == "num" else "input", note, self.row_at(then))
        if word == "op" and which == 1:
            return ("op", note, self.row_at((gate, "out", self.new_mark(), tape, log[1:], roll)))
        if word == "if" and which == 0:
            kept = (("num", value),) + log
            ways = [self.row_at((part, "in", None, tape, kept, roll)) for part in inside[1:]]
            return ("test", ways[0], ways[1])
        return self.move_at(stop, gate, word == "if" and which is not None)

    def move_at(self, stop, gate, behind_if):
        """The deed of a stop at which numbers only move."""
        if behind_if:
            # By hand: whether the number that was asked for is 0 can't be seen by its mark.
            wire, way, value, tape, log, roll = stop
            then = (gate, "out", value, tape, log[1:], roll)
        else:
            then = next_stop(self.web, (), stop, self.book)
        ahead = numbers_of(stop, self.book.rows)
        order = tuple(ahead.index(mark) for mark in numbers_of(then, self.book.rows))
        return ("move", order, self.row_at(then))


def machine_of(web, most):
    """The machine of a web: a row (wire, way, deed) for each stand."""
    survey = Survey(web, most)
    survey.row_at(DOOR)
    rows = []
    while len(rows) < len(survey.stops):
        stop = survey.stops[len(rows)]
        rows.append((stop[0], stop[1], survey.deed_at(stop)))
    return tuple(rows)
