"""Stops whose slips are trees, with marks for numbers: the moves by the words of 18 and 19, and the stands by 32.

A slip is ("slip", gate, entries), its entries written out in it; there are no other slips. A number is a mark.
"""

ON = ("on",)
DOOR = (0, "in", None, (), ())


def depth(web, gate):
    return 0 if web[gate][0] == "rec" else web[gate][4] - web[web[gate][5]][4]


def as_tree(stop, slips):
    """A stop as it is told, but for its roll, with its slips as trees."""
    trees = []

    def row(entries):
        return tuple(trees[e[1]] if e[0] == "slip" else e for e in entries)

    for gate, entries in slips:
        trees.append(("slip", gate, row(entries)))
    return stop[:3] + (row(stop[3]), row(stop[4]))


def numbers(stop):
    """The numbers of a stop, in order."""
    def within(entries):
        found = []
        for e in entries:
            found += within(e[2]) if e[0] == "slip" else list(e[1:])
        return found

    return ([] if stop[2] is None else [stop[2]]) + within(stop[3]) + within(stop[4])


def bare(stop):
    """A stop but for its numbers."""
    def row(entries):
        return tuple(("slip", e[1], row(e[2])) if e[0] == "slip" else e[0] for e in entries)

    return (stop[0], stop[1], stop[2] is None, row(stop[3]), row(stop[4]))


def into(web, wire, value, tape, log, mark):
    """What a stop that is in leads to: its deed's word and notes, and the next stops."""
    word, note, inside, above, level, bound = web[wire]
    if word in ("num", "input"):
        return ("put" if word == "num" else word, note), [(wire, "out", mark, tape, log)]
    if word == "fn" and tape[0] == ON:
        then = (inside[0], "in", value, tape[1:], log)
    elif word == "fn":
        then = (tape[0][1], "out", value, tape[1:], tape[0][2] + log)
    elif word == "call":
        then = (inside[0], "in", value, (ON,) + tape, log)
    elif word == "let":
        then = (inside[1], "in", value, tape, log)
    elif word == "rec":
        then = (inside[0], "in", value, tape, (("slip", wire, ()),) + log)
    elif word == "name":
        many = depth(web, wire)
        one, rest = ("slip", wire, log[:many]), log[many:]
        if web[bound][0] == "fn":
            then = (bound, "out", value, (one,) + tape, rest)
        else:
            then = (web[bound][2][0], "in", value, tape, (one,) + rest)
    else:
        then = (inside[0], "in", value, tape, log)
    return ("move",), [then]


def out_of(web, wire, value, tape, log, mark):
    """What a stop that is out leads to."""
    above = web[wire][3]
    if above is None:
        return ("end",), []
    word, note, inside = web[above][:3]
    place = (word, inside.index(wire))
    if place == ("fn", 0):
        then = (above, "out", value, (ON,) + tape, log)
    elif place == ("let", 1):
        then = (above, "out", value, tape, log)
    elif place == ("call", 0) and tape[0] == ON:
        then = (above, "out", value, tape[1:], log)
    elif place == ("call", 0):
        then = (inside[1], "in", value, tape[1:], tape[:1] + log)
    elif place == ("call", 1):
        then = (inside[0], "in", value, log[:1] + tape, log[1:])
    elif place in (("let", 0), ("rec", 0)):
        # A rec's own slip leads out at the rec: that is its gate, and it has no entries.
        then = (log[0][1], "out", value, tape, log[0][2] + log[1:])
    elif place == ("op", 0):
        then = (inside[1], "in", None, tape, (("num", value),) + log)
    elif place == ("op", 1):
        return ("op", note), [(above, "out", mark, tape, log[1:])]
    elif place == ("if", 0):
        return ("test",), [(part, "in", None, tape, (("num", value),) + log) for part in inside[1:]]
    else:
        then = (above, "out", value, tape, log[1:])
    return ("move",), [then]


def machine(web, most):
    """For each stand that is come to: (deed's word and notes, order or None, next stands); None where there are more
    than `most`."""
    rows, due, mark = {}, [DOOR], 0
    while due:
        stop = due.pop()
        if bare(stop) in rows:
            continue
        if len(rows) == most:
            return None
        mark += 1
        wire, way, value, tape, log = stop
        deed, nexts = (into if way == "in" else out_of)(web, wire, value, tape, log, ("mark", mark))
        order = None
        if deed == ("move",):
            order = tuple(numbers(stop).index(number) for number in numbers(nexts[0]))
        rows[bare(stop)] = (deed, order, tuple(map(bare, nexts)))
        due += nexts
    return rows
