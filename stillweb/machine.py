"""Machines run: rows without any function, and a row of numbers."""

from stillweb.errors import TooLong
from stillweb.heads import come_to


def machine_run(rows, values, most):
    """The number that a machine tells, and the numbers of the rows gone through."""
    at = 0
    numbers = []
    road = [at]
    while rows[at][2][0] != "end":
        if len(road) > most:
            raise TooLong(most)
        at, numbers = done(rows[at][2], numbers, values)
        road.append(at)
    return numbers[0], road


def done(deed, numbers, values):
    """The row to which a deed leads, and the numbers there."""
    word = deed[0]
    if word == "put":
        return deed[2], [deed[1]] + numbers
    if word == "input":
        return deed[2], [values[deed[1]]] + numbers
    if word == "op":
        m, n = numbers[:2]
        return deed[2], [come_to(deed[1], n, m)] + numbers[2:]
    if word == "test":
        then = deed[1] if numbers[0] != 0 else deed[2]
        return then, numbers
    return deed[2], [numbers[place] for place in deed[1]]
