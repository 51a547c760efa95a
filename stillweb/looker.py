"""The looker: a program's kind, or the first refusal that is due."""

from stillweb.errors import NoKind, NoName, Twice
from stillweb.places import places
from stillweb.shapes import insides_first, shapes


def look(program):
    """The kind of a program's term."""
    return kinds_of(program)[0]


def kinds_of(program):
    """The kinds of all parts of a program's term, in reading order."""
    names, term = program
    each_once(names)
    rows = places(term)
    shaped = shapes([part[0] for part, binder in rows])
    kinds = [None] * len(rows)
    for at in insides_first(shaped):
        part, binder = rows[at]
        if part[0] != "name":
            kinds[at] = kind_over(part, [kinds[k] for k in shaped[at][0]], at)
        elif binder is not None:
            kinds[at] = bound_kind(rows, kinds, binder)
        elif part[1] in names:
            kinds[at] = "num"
        else:
            raise NoName(at)
    return kinds


def each_once(names):
    """Refuses the first name that is there ahead."""
    for at, name in enumerate(names):
        if name in names[:at]:
            raise Twice(name)


def bound_kind(rows, kinds, binder):
    """The kind of a name that part `binder` binds."""
    part = rows[binder][0]
    if part[0] == "let":
        # A let's a stands right behind it in reading order.
        return kinds[binder + 1]
    return part[2]


def kind_over(part, inner, at):
    """The kind of a part that is no name, by the kinds of the terms right in it."""
    word = part[0]
    if word == "fn":
        return (part[2], inner[0])
    if word == "let":
        return inner[1]
    if word == "call":
        return call_kind(inner[0], inner[1], at)
    # What is left is of the one kind that all right in it must have.
    due = part[2] if word == "rec" else "num"
    for kind in inner:
        if kind != due:
            raise NoKind(at)
    return due


def call_kind(kind, given, at):
    """The kind of a call of a thing of one kind, given a thing of another."""
    if not isinstance(kind, tuple) or kind[0] != given:
        raise NoKind(at)
    return kind[1]
