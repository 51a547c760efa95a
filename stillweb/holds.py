"""Walks looked at: whether some stops and slips are just a web's walk."""

from stillweb.gates import next_stop
from stillweb.slips import Book
from stillweb.walk import DOOR, is_end, moved_or_none


def walk_holds(web, values, stops, slips):
    """Whether the stops and the slips are those of the walk."""
    if not stops or stops[0] != DOOR:
        return False
    # No stop is gone on from but one that is the walk's, so whatever stands behind a wrong one is not read.
    book = Book(())
    for stop, then in zip(stops, stops[1:]):
        if moved_or_none(next_stop, web, values, stop, book) != then:
            return False
    return is_end(stops[-1]) and book.all_slips() == slips
