"""A messenger on its way, at the desk."""

from stillweb.slips import Book
from stillweb.walk import DOOR, moved_or_none

LETTERS = {"slip": "s", "far": "f", "num": "n"}


class Messenger:
    """A messenger in a web, with values; at first at the door."""

    def __init__(self, web, values):
        self.web = web
        self.values_given = values
        self.stop = DOOR
        self.book = Book(())

    def go_by(self, move, most):
        """How many moves of this sort were gone: so many at most, or fewer where there are no more."""
        for gone in range(most):
            then = moved_or_none(move, self.web, self.values_given, self.stop, self.book)
            if then is None:
                return gone
            self.stop = then
        return most

    def place_text(self):
        """The text of where the messenger is and what it has."""
        wire, way, value, tape, log, roll = self.stop
        words = [str(wire), way, "asks" if value is None else str(value)]
        words.extend(["tape"] + entry_texts(tape))
        words.extend(["log"] + entry_texts(log))
        words.extend(["roll", str(len(roll))])
        return " ".join(words)


def entry_texts(entries):
    """The texts of entries of a tape or a log."""
    return [entry_text(entry) for entry in entries]


def entry_text(entry):
    """The text of an entry."""
    if entry[0] == "on":
        return "on"
    return f"{LETTERS[entry[0]]}{entry[1]}"
