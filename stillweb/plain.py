"""The plain run: steps, one behind the other, till a number is there."""

from stillweb.errors import TooLong, TooMany
from stillweb.heads import is_done, stepped
from stillweb.terms import parts, put_in

MOST_PARTS = 200


def plain(program, values, most):
    """The number that a program of kind num comes to, and by how many steps."""
    term = with_values(program, values)
    steps = 0
    while not is_done(term):
        if steps == most:
            raise TooLong(most)
        term = stepped(term)
        steps += 1
        if len(parts(term)) > MOST_PARTS:
            raise TooMany(MOST_PARTS)
    return term[1], steps


def with_values(program, values):
    """A program's term, its inputs' names given way to their values."""
    names, term = program
    for name, value in zip(names, values):
        term = put_in(term, name, ("num", value))
    return term
