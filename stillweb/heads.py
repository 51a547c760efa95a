"""Heads and steps: where a term goes on, and what it then becomes."""

from stillweb.terms import put_in, rebuilt, right_in
from stillweb.words import PAST_NUMBERS


def head(term):
    """The number of the part that is a term's head, or None."""
    if is_done(term):
        return None
    at = 0
    way, bottom = way_down(term)
    for outer, which in way:
        # The way leads past a part only where that is a number, which is one part.
        at += 1 + which
    return at


def is_done(term):
    """Whether a term has no head."""
    return term[0] == "num" or term[0] == "fn"


def way_down(term):
    """The way from a term to its head: each term on it with which of its parts comes next, and then the head."""
    way = []
    which = next_part(term)
    while which is not None:
        way.append((term, which))
        term = right_in(term)[which]
        which = next_part(term)
    return way, term


def next_part(term):
    """Which part of a term has the same head, or None where the term is the head itself."""
    word = term[0]
    if word == "call":
        return None if term[1][0] == "fn" else 0
    if word == "op":
        if term[2][0] != "num":
            return 0
        return None if term[3][0] == "num" else 1
    if word == "if":
        return None if term[1][0] == "num" else 0
    return None


def stepped(term):
    """The term behind a step, or None."""
    if is_done(term):
        return None
    way, bottom = way_down(term)
    then = replaced(bottom)
    for outer, which in way[::-1]:
        inner = right_in(outer)
        inner[which] = then
        then = rebuilt(outer, inner)
    return then


def replaced(term):
    """What comes in the place of a head."""
    word = term[0]
    if word == "call":
        fn = term[1]
        return put_in(fn[3], fn[1], term[2])
    if word == "let":
        return put_in(term[3], term[1], term[2])
    if word == "rec":
        return put_in(term[3], term[1], term)
    if word == "op":
        return ("num", come_to(term[1], term[2][1], term[3][1]))
    return term[2] if term[1][1] != 0 else term[3]


def come_to(s, n, m):
    """What two numbers come to by a sign."""
    if s == "+":
        return (n + m) % PAST_NUMBERS
    if s == "*":
        return (n * m) % PAST_NUMBERS
    if s == "-":
        return max(n - m, 0)
    if s == "<":
        return 1 if n < m else 0
    return 1 if n == m else 0
