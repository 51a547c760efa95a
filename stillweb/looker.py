"""The looker: a program's kind, or the first refusal that is due."""

from stillweb.errors import NoKind, NoName, Twice
from stillweb.places import insides_first, places


def look(program):
    """The kind of a program's term."""
    return kinds_of(program)[0]


def kinds_of(program):
    """The kinds of all parts of a program's term, in reading order."""
    names, term = program
    each_once(names)
    rows = places(term)
    kinds = [None] * len(rows)
    for at in insides_first(rows):
        kinds[at] = kind_at(rows, kinds, names, at)
    return kinds


def each_once(names):
    """Refuses the first name that is there ahead."""
    for at, name in enumerate(names):
        if name in names[:at]:
            raise Twice(name)


def kind_at(rows, kinds, names, at):
    """The kind of a part, where the kinds of all that it hangs on are known."""
    part = rows[at][0]
    word = part[0]
    if word == "num":
        return "num"
    if word == "name":
        return name_kind(rows, kinds, names, at)
    inner = [kinds[k] for k in rows[at][1]]
    if word == "fn":
        return (part[2], inner[0])
    if word == "let":
        return inner[1]
    if word == "call":
        return call_kind(inner[0], inner[1], at)
    due = part[2] if word == "rec" else "num"
    # What is left, a rec, an op and an if, is of the one kind that all in it must have.
    for kind in inner:
        if kind != due:
            raise NoKind(at)
    return due


def name_kind(rows, kinds, names, at):
    """The kind of a name."""
    binder = rows[at][3]
    if binder is None:
        if rows[at][0][1] not in names:
            raise NoName(at)
        return "num"
    binding = rows[binder][0]
    if binding[0] == "let":
        # A let's a stands right behind it in reading order.
        return kinds[binder + 1]
    return binding[2]


def call_kind(kind, given, at):
    """The kind of a call of a thing of one kind, given a thing of another."""
    if not isinstance(kind, tuple) or kind[0] != given:
        raise NoKind(at)
    return kind[1]
