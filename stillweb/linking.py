"""Linking: the walk of a call, by the crossings to and fro of what is called and what it is given."""

from stillweb.crossing import across
from stillweb.errors import TooLong
from stillweb.routes import ON
from stillweb.slips import Book


class Link:
    """Two webs being linked."""

    def __init__(self, one, other, values, most):
        self.webs = (one, other)
        self.books = (Book(()), Book(()))
        self.values_given = values
        self.most = most
        # The call's walk has a move into the first web, and one out of each crossing.
        self.left = most - 1
        self.crossings = []

    def cross(self, which, value, tape):
        """The value and tape with which one of the webs is come out of."""
        self.left -= 1
        told = across(self.webs[which], self.values_given, value, tape, self.books[which], self.left)
        if told is None:
            raise TooLong(self.most)
        then_value, then_tape, moves = told
        self.left -= moves
        self.crossings.append((which, value, tape, then_value, then_tape, moves))
        return then_value, then_tape


def linked(one, other, values, most):
    """The number of the call of both webs, and the crossings."""
    link = Link(one, other, values, most)
    value, tape = link.cross(0, None, (ON,))
    while tape != (ON,):
        asker = tape[:1]
        value, tape = link.cross(1, value, handed_over(tape[1:]))
        value, tape = link.cross(0, value, asker + handed_over(tape))
    return value, link.crossings


def handed_over(tape):
    """A tape from one web as the other one has it: its own slips are far ones there, and theirs its own."""
    return tuple(handed_entry(entry) for entry in tape)


def handed_entry(entry):
    """An entry of such a tape."""
    if entry == ON:
        return entry
    word, k = entry
    return ("far" if word == "slip" else "slip", k)
