"""Each row of going on, as stops of small webs, with what must stay; and how stops are read."""

from stillweb.reader import read
from stillweb.webs import laid
from tests.samples import BIGGEST

ON = ("on",)


def web_of(text):
    return laid(read(text))


def slip(k):
    return ("slip", k)


def far(k):
    return ("far", k)


def num(n):
    return ("num", n)


# 0 op + (1, 5); 1 if (2, 3, 4); 2 input 0; 3 input 1; 4 num 7; 5 call (6, 10); 6 fn (7); 7 op - (8, 9);
# 8 name of 6, depth 0; 9 name of 6, depth 1; 10 num 5
SUMS = web_of("inputs a b tell ( + ( if a b 7 ) ( call ( fn x num ( - x x ) ) 5 ) )")
SUMS_VALUES = (3, 11)
SUMS_SLIPS = ((8, ()), (9, (num(4),)), (9, (slip(0),)), (9, (far(6),)), (8, (num(4),)), (9, ()), (9, (num(1), num(2))),
              (6, ()), (10, ()))

# 0 let (1, 3); 1 fn (2); 2 name of 1, depth 0; 3 call (4, 5); 4 name of 0, depth 0; 5 call (6, 7);
# 6 name of 0, depth 1; 7 num 2
LETS = web_of("inputs tell ( let f ( fn x num x ) ( call f ( call f 2 ) ) )")
LETS_SLIPS = ((4, ()), (6, (slip(0),)), (6, (num(9),)), (6, ()), (4, (num(9),)), (2, ()), (0, ()),
              (6, (far(1), slip(0))))

# 0 call (1, 11); 1 rec (2); 2 fn (3); 3 if (4, 5, 10); 4 name of 2, depth 0; 5 call (6, 7); 6 name of 1, depth 2;
# 7 op - (8, 9); 8 name of 2, depth 2; 9 num 1; 10 num 9; 11 input 0
RECS = web_of("inputs n tell ( call ( rec f < num num > ( fn x num ( if x ( call f ( - x 1 ) ) 9 ) ) ) n )")
RECS_VALUES = (2,)
RECS_SLIPS = ((1, ()), (6, (num(2), slip(0))), (4, ()), (8, (slip(2), num(3))), (6, (num(2),)), (1, (num(1),)),
              (6, (far(0), slip(1))), (8, ()), (2, ()))

SUMS_HOME = (SUMS, SUMS_VALUES, SUMS_SLIPS)
LETS_HOME = (LETS, (), LETS_SLIPS)
RECS_HOME = (RECS, RECS_VALUES, RECS_SLIPS)

TAPES = ((), (ON,), (slip(0), far(3), ON))
LOGS = ((), (num(4),), (far(2), slip(1), num(0)))
ROLLS = ((), ((1,), (2, 3)))
VALUES = (None, 0, 7)


def routes(value, tape, log, roll):
    """Each move by which nothing is reckoned: (home, stop, next stop, slips that are then new)."""
    def stop(wire, way, taped=(), logged=()):
        return (wire, way, value, taped + tape, logged + log, roll)

    return [
        # fn
        (SUMS_HOME, stop(6, "in", (ON,)), stop(7, "in"), ()),
        (SUMS_HOME, stop(6, "in", (slip(0),)), stop(8, "out"), ()),
        (SUMS_HOME, stop(6, "in", (slip(1),)), stop(9, "out", (), (num(4),)), ()),
        (SUMS_HOME, stop(6, "in", (slip(2),)), stop(9, "out", (), (slip(0),)), ()),
        (SUMS_HOME, stop(6, "in", (slip(3),)), stop(9, "out", (), (far(6),)), ()),
        (RECS_HOME, stop(2, "in", (slip(3),)), stop(8, "out", (), (slip(2), num(3))), ()),
        (SUMS_HOME, stop(7, "out"), stop(6, "out", (ON,)), ()),
        # call
        (SUMS_HOME, stop(5, "in"), stop(6, "in", (ON,)), ()),
        (SUMS_HOME, stop(6, "out", (ON,)), stop(5, "out"), ()),
        (SUMS_HOME, stop(6, "out", (slip(5),)), stop(10, "in", (), (slip(5),)), ()),
        (SUMS_HOME, stop(6, "out", (far(BIGGEST),)), stop(10, "in", (), (far(BIGGEST),)), ()),
        (SUMS_HOME, stop(10, "out", (), (slip(0),)), stop(6, "in", (slip(0),)), ()),
        (SUMS_HOME, stop(10, "out", (), (far(0),)), stop(6, "in", (far(0),)), ()),
        # let
        (LETS_HOME, stop(0, "in"), stop(3, "in"), ()),
        (LETS_HOME, stop(3, "out"), stop(0, "out"), ()),
        (LETS_HOME, stop(1, "out", (), (slip(0),)), stop(4, "out"), ()),
        (LETS_HOME, stop(1, "out", (), (slip(1),)), stop(6, "out", (), (slip(0),)), ()),
        (LETS_HOME, stop(1, "out", (), (slip(2),)), stop(6, "out", (), (num(9),)), ()),
        # rec
        (RECS_HOME, stop(1, "in"), stop(2, "in", (), (slip(0),)), ()),
        (RECS_HOME, stop(2, "out", (), (slip(0),)), stop(1, "out"), ()),
        (RECS_HOME, stop(2, "out", (), (slip(1),)), stop(6, "out", (), (num(2), slip(0))), ()),
        (RECS_HOME, stop(2, "out", (), (slip(6),)), stop(6, "out", (), (far(0), slip(1))), ()),
        # name of a fn
        (SUMS_HOME, stop(8, "in"), stop(6, "out", (slip(0),)), ()),
        (SUMS_HOME, stop(9, "in", (), (num(4),)), stop(6, "out", (slip(1),)), ()),
        (SUMS_HOME, stop(9, "in", (), (slip(0),)), stop(6, "out", (slip(2),)), ()),
        (SUMS_HOME, stop(9, "in", (), (num(5),)), stop(6, "out", (slip(9),)), ((9, (num(5),)),)),
        (RECS_HOME, stop(8, "in", (), (num(3), slip(2))), stop(2, "out", (slip(9),)), ((8, (num(3), slip(2))),)),
        # name of a let
        (LETS_HOME, stop(4, "in"), stop(1, "in", (), (slip(0),)), ()),
        (LETS_HOME, stop(6, "in", (), (slip(0),)), stop(1, "in", (), (slip(1),)), ()),
        (LETS_HOME, stop(6, "in", (), (far(9),)), stop(1, "in", (), (slip(8),)), ((6, (far(9),)),)),
        # name of a rec
        (RECS_HOME, stop(6, "in", (), (num(2), slip(0))), stop(2, "in", (), (slip(1),)), ()),
        (RECS_HOME, stop(6, "in", (), (num(3), slip(0))), stop(2, "in", (), (slip(9),)), ((6, (num(3), slip(0))),)),
    ]


def reckonings(log, roll):
    """Each move by which something is reckoned, likewise; none has a tape."""
    def stop(wire, way, value, logged=(), rolled=()):
        return (wire, way, value, (), logged + log, roll + rolled)

    return [
        # num and input
        (SUMS_HOME, stop(4, "in", None), stop(4, "out", 7), ()),
        (SUMS_HOME, stop(10, "in", None), stop(10, "out", 5), ()),
        (SUMS_HOME, stop(2, "in", None), stop(2, "out", 3), ()),
        (SUMS_HOME, stop(3, "in", None), stop(3, "out", 11), ()),
        (RECS_HOME, stop(11, "in", None), stop(11, "out", 2), ()),
        # op
        (SUMS_HOME, stop(0, "in", None), stop(1, "in", None), ()),
        (SUMS_HOME, stop(7, "in", None), stop(8, "in", None), ()),
        (SUMS_HOME, stop(1, "out", 8), stop(5, "in", None, (num(8),)), ()),
        (SUMS_HOME, stop(1, "out", 0), stop(5, "in", None, (num(0),)), ()),
        (SUMS_HOME, stop(5, "out", 5, (num(8),)), stop(0, "out", 13, (), ((8, 5),)), ()),
        (SUMS_HOME, stop(5, "out", 0, (num(0),)), stop(0, "out", 0, (), ((0, 0),)), ()),
        (SUMS_HOME, stop(5, "out", 1, (num(BIGGEST),)), stop(0, "out", 0, (), ((BIGGEST, 1),)), ()),
        (SUMS_HOME, stop(9, "out", 5, (num(8),)), stop(7, "out", 3, (), ((8, 5),)), ()),
        (SUMS_HOME, stop(9, "out", 8, (num(5),)), stop(7, "out", 0, (), ((5, 8),)), ()),
        # if
        (SUMS_HOME, stop(1, "in", None), stop(2, "in", None), ()),
        (SUMS_HOME, stop(2, "out", 3), stop(3, "in", None, (num(3),)), ()),
        (SUMS_HOME, stop(2, "out", BIGGEST), stop(3, "in", None, (num(BIGGEST),)), ()),
        (SUMS_HOME, stop(2, "out", 0), stop(4, "in", None, (num(0),)), ()),
        (SUMS_HOME, stop(3, "out", 6, (num(3),)), stop(1, "out", 6, (), ((3,),)), ()),
        (SUMS_HOME, stop(3, "out", 0, (num(1),)), stop(1, "out", 0, (), ((1,),)), ()),
        (SUMS_HOME, stop(4, "out", 6, (num(0),)), stop(1, "out", 6, (), ((0,),)), ()),
        (SUMS_HOME, stop(4, "out", 0, (num(0),)), stop(1, "out", 0, (), ((0,),)), ()),
    ]


def all_moves():
    """All these moves, with many things that must stay as they are."""
    found = []
    for log in LOGS:
        for roll in ROLLS:
            found += reckonings(log, roll)
            for value in VALUES:
                for tape in TAPES:
                    found += routes(value, tape, log, roll)
    return found


def read_so(stop, slips, table):
    """The stop with each slip read by its gate and entries: by a number of its own in the table, which
    several stops may share, whatever its number in the slips."""
    numbers = []

    def entries(row):
        return tuple(("slip", numbers[entry[1]]) if entry[0] == "slip" else entry for entry in row)

    # Of slips only those ahead of it stand in a slip's entries, so one way through is enough.
    for gate, kept in slips:
        numbers.append(table.setdefault((gate, entries(kept)), len(table)))
    wire, way, value, tape, log, roll = stop
    return (wire, way, value, entries(tape), entries(log), roll)


def has_form(web, stop, slips):
    """Whether what was told has the forms of 16 and 17."""
    def number(thing, below=10 ** 18):
        return type(thing) is int and 0 <= thing < below

    def entry(thing, words, many):
        if type(thing) is not tuple or thing[0] not in words:
            return False
        if thing == ON:
            return True
        return len(thing) == 2 and number(thing[1], many if thing[0] == "slip" else 10 ** 18)

    wire, way, value, tape, log, roll = stop
    logged = ("slip", "far", "num")
    return (
        type(stop) is type(tape) is type(log) is type(roll) is type(slips) is tuple
        and number(wire, len(web)) and way in ("in", "out") and (value is None or number(value))
        and all(entry(thing, ("on", "slip", "far"), len(slips)) for thing in tape)
        and all(entry(thing, logged, len(slips)) for thing in log)
        and all(type(row) is tuple and len(row) in (1, 2) and all(map(number, row)) for row in roll)
        and all(type(row) is tuple and len(row) == 2 and number(row[0], len(web)) and type(row[1]) is tuple
                and all(entry(thing, logged, k) for thing in row[1]) for k, row in enumerate(slips)))
