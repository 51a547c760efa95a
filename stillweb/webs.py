"""Webs: a gate for each part of a program's term, laid out once."""

from stillweb.places import places
from stillweb.shapes import BOXES, shapes
from stillweb.terms import SIGNS
from stillweb.words import is_number

BINDERS = ("fn", "let", "rec")


def laid(program):
    """A program's web."""
    names, term = program
    rows = places(term)
    words = [gate_word(part, binder) for part, binder in rows]
    gates = []
    for word, (part, binder), shape in zip(words, rows, shapes(words)):
        gates.append((word, gate_note(word, part, names)) + shape + (binder,))
    return tuple(gates)


def gate_word(part, binder):
    """The word of a part's gate."""
    if part[0] == "name" and binder is None:
        return "input"
    return part[0]


def gate_note(word, part, names):
    """The note of a part's gate."""
    if word == "input":
        return names.index(part[1])
    if word == "num" or word == "op":
        return part[1]
    return None


def depth_at(web, q):
    """The depth of the slip of a name's gate, or of a rec's own."""
    word, note, inside, above, level, bound = web[q]
    if word == "rec":
        return 0
    return level - web[bound][4]


def is_web(thing, inputs):
    """Whether a thing is the web of some program with so many inputs."""
    if not isinstance(thing, tuple):
        return False
    if not all(is_gate(gate, inputs) for gate in thing):
        return False
    due = shapes([gate[0] for gate in thing])
    if due is None:
        return False
    for gate, shape in zip(thing, due):
        if not has_shape(gate, shape):
            return False
    return all(is_bound(thing, at) for at in range(len(thing)))


def is_gate(thing, inputs):
    """Whether a thing has the form of a gate, its word, and a note that fits."""
    if not isinstance(thing, tuple) or len(thing) != 6:
        return False
    word, note = thing[:2]
    if not isinstance(word, str) or word not in BOXES:
        return False
    if word == "num":
        return is_number(note)
    if word == "input":
        return is_number(note) and note < inputs
    if word == "op":
        return note in SIGNS
    return note is None


def has_shape(gate, shape):
    """Whether a gate has these parts, this above and this level."""
    word, note, inside, above, level, bound = gate
    # Python holds a truth for the same as 0 or 1, so that it isn't enough to compare.
    if not isinstance(inside, tuple) or not all(is_number(k) for k in inside):
        return False
    if not is_number(level) or not (above is None or is_number(above)):
        return False
    return (inside, above, level) == shape


def is_bound(web, at):
    """Whether a gate, in a web whose shape is right, is bound as its word asks: a name in the b of a binder."""
    binder = web[at][5]
    if web[at][0] != "name":
        return binder is None
    if not is_number(binder):
        return False
    # A binder's b is the last of its parts, and every binding around counts where names are unlike.
    inner = at
    above = web[at][3]
    while above is not None and above != binder:
        inner = above
        above = web[inner][3]
    return above is not None and web[above][0] in BINDERS and web[above][2][-1] == inner
