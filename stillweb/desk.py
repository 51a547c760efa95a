"""The desk: it keeps programs by names, and perhaps a messenger, and is told rows."""

from stillweb.backs import last_stop
from stillweb.errors import NoMessenger, NoRow, Unknown
from stillweb.gates import next_stop
from stillweb.leaps import leapt
from stillweb.linking import linked
from stillweb.looker import look
from stillweb.messenger import Messenger
from stillweb.plain import plain
from stillweb.reader import is_written_number, read
from stillweb.stands import machine_of
from stillweb.walk import walked
from stillweb.webs import laid
from stillweb.words import is_name
from stillweb.writer import kind_text

MOST_MOVES = 500
MOST_STANDS = 100

# How many names stand behind a row's first word, in the rows that ask for what is kept.
NAMES_IN = {"run": 1, "walk": 1, "leap": 1, "stands": 1, "link": 2, "set": 1}


class Desk:
    """A desk: at first it keeps nothing."""

    def __init__(self):
        # Each program with its kind.
        self.programs = {}
        self.messenger = None

    def say(self, row):
        """The answer to a row."""
        words = row.split(" ")
        if words[0] == "keep":
            return self.keep(row)
        if words[0] == "on" or words[0] == "back":
            return self.go(words)
        if words[0] == "here":
            return self.here(words)
        return self.answer(words)

    def keep(self, row):
        """Keeps a program by a name."""
        words = row.split(" ", 2)
        if len(words) < 3 or not is_name(words[1]):
            raise NoRow()
        program = read(words[2])
        kind = look(program)
        self.programs[words[1]] = (program, kind)
        return kind_text(kind)

    def go(self, words):
        """Lets the messenger go on or back."""
        if len(words) != 2 or not is_written_number(words[1]) or int(words[1]) > MOST_MOVES:
            raise NoRow()
        move = next_stop if words[0] == "on" else last_stop
        return str(self.messenger_set().go_by(move, int(words[1])))

    def here(self, words):
        """Where the messenger is."""
        if len(words) != 1:
            raise NoRow()
        return self.messenger_set().place_text()

    def messenger_set(self):
        """The messenger, if there is one."""
        if self.messenger is None:
            raise NoMessenger()
        return self.messenger

    def answer(self, words):
        """The answer to a row that asks for what is kept."""
        word = words[0]
        names, values = asked_for(words)
        for name in names:
            if name not in self.programs:
                raise Unknown(name)
        there = [self.programs[name] for name in names]
        if not can_be_asked(word, there, values):
            raise NoRow()
        programs = [program for program, kind in there]
        if word == "set":
            self.messenger = Messenger(laid(programs[0]), values)
            return "set"
        told = ANSWERS[word]
        return told(programs, values)


def asked_for(words):
    """The names and the values in a row that asks for what is kept."""
    if words[0] not in NAMES_IN:
        raise NoRow()
    behind = 1 + NAMES_IN[words[0]]
    names = words[1:behind]
    figures = words[behind:]
    if len(words) < behind or not all(is_name(name) for name in names):
        raise NoRow()
    if not all(is_written_number(figure) for figure in figures):
        raise NoRow()
    if words[0] == "stands" and figures:
        raise NoRow()
    return names, [int(figure) for figure in figures]


def can_be_asked(word, there, values):
    """Whether programs with these kinds and inputs can be asked for so, with these values."""
    kinds = [kind for program, kind in there]
    if word == "link":
        if kinds[0] != (kinds[1], "num"):
            return False
    elif kinds[0] != "num":
        return False
    # Stands are the same for all values.
    return word == "stands" or all(len(program[0]) == len(values) for program, kind in there)


def run_text(programs, values):
    """The answer to run."""
    number, steps = plain(programs[0], values, MOST_MOVES)
    return f"{number} in {steps}"


def walk_text(programs, values):
    """The answer to walk."""
    return moves_text(walked(laid(programs[0]), values, MOST_MOVES))


def leap_text(programs, values):
    """The answer to leap."""
    return moves_text(leapt(laid(programs[0]), values, MOST_MOVES))


def moves_text(walk):
    """The number of a walk, and by how many moves."""
    number, stops, slips = walk
    return f"{number} in {len(stops) - 1}"


def stands_text(programs, values):
    """The answer to stands."""
    return str(len(machine_of(laid(programs[0]), MOST_STANDS)))


def link_text(programs, values):
    """The answer to link."""
    number, crossings = linked(laid(programs[0]), laid(programs[1]), values, MOST_MOVES)
    return f"{number} by {len(crossings)}"


ANSWERS = {
    "run": run_text,
    "walk": walk_text,
    "leap": leap_text,
    "stands": stands_text,
    "link": link_text,
}
