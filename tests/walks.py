"""Programs with values whose walks are looked at, and the walk by its moves one by one."""

from functools import lru_cache
from itertools import product

from stillweb.backs import back
from stillweb.errors import NoStep, TooLong
from stillweb.gates import on
from stillweb.looker import look
from stillweb.reader import read
from stillweb.walk import walked
from stillweb.webs import laid
from tests.drawn import drawn_program, drawn_values
from tests.runs import EVEN, INC, RUNS, SUM_TO, TWICE

DOOR = (0, "in", None, (), (), ())

LESS = "( rec f < num num > ( fn x num ( if x ( call f ( - x 1 ) ) n ) ) )"
IN_REC = f"( rec f < num num > ( fn x num ( if x ( + ( call {LESS} 1 ) ( call f ( - x 1 ) ) ) 4 ) ) )"

# Functions of numbers, with n an input.
FUNS = (
    INC,
    "( fn x num 3 )",
    "( fn x num ( * x n ) )",
    "( fn x num ( if ( < x 2 ) n ( - x 1 ) ) )",
    "( fn x num ( let y ( + x x ) ( - ( * y y ) x ) ) )",
    EVEN,
    SUM_TO,
)

# Functions that are given such a function and tell another.
BUILDERS = (
    "( fn f < num num > f )",
    "( fn f < num num > ( fn x num x ) )",
    TWICE,
    "( fn f < num num > ( fn x num ( + ( call f x ) ( call f 1 ) ) ) )",
    "( fn f < num num > ( fn x num ( if x ( call f ( - x 1 ) ) 7 ) ) )",
    "( fn f < num num > ( let g ( fn y num ( call f ( call f y ) ) ) ( fn x num ( call g ( call g x ) ) ) ) )",
    "( let f ( fn x num ( + x n ) ) ( fn g < num num > ( fn y num ( call g ( call f y ) ) ) ) )",
    "( fn f < num num > ( rec g < num num > ( fn x num ( if x ( call g ( - x 1 ) ) ( call f n ) ) ) ) )",
)

# Functions that are given such a builder.
OVER_BUILDERS = (
    "( fn t < < num num > < num num > > ( fn f < num num > ( call t ( call t f ) ) ) )",
    "( fn t < < num num > < num num > > ( call t ( fn x num ( + x 5 ) ) ) )",
)


def read_with_n(term):
    return read(f"inputs n tell {term}")


def built_terms():
    """Terms by all pieces put together, each of kind num."""
    terms = [f"( call ( call {builder} {fun} ) {given} )"
             for builder, fun, given in product(BUILDERS, FUNS, ("n", "( + n 1 )"))]
    terms += [f"( call ( call ( call {OVER_BUILDERS[0]} {builder} ) {fun} ) n )"
              for builder, fun in product(BUILDERS, FUNS[:4])]
    terms += [f"( call ( call {OVER_BUILDERS[1]} {builder} ) n )" for builder in BUILDERS]
    terms += [f"( let f {fun} ( + ( call f n ) ( call f ( call f 1 ) ) ) )" for fun in FUNS]
    terms += [f"( call {IN_REC} n )", f"( let g {IN_REC} ( + ( call g 1 ) ( call g n ) ) )"]
    return terms


@lru_cache
def tried():
    """Many programs with values: those by their texts, those put together, those drawn."""
    found = [(read(text), values) for text, values, number in RUNS]
    found += [(read_with_n(term), (at % 3,)) for at, term in enumerate(built_terms())]
    for seed in range(600):
        program = drawn_program(seed, 2 + seed % 4)
        found.append((program, tuple(drawn_values(seed, program))))
    return tuple(found)


@lru_cache
def ended():
    """Of these, those whose walk ends by so many moves, with it: (program, web, values, number, stops, slips)."""
    found = []
    for program, values in tried():
        web = laid(program)
        try:
            number, stops, slips = walked(web, values, 600)
        except TooLong:
            continue
        found.append((program, web, values, number, tuple(stops), slips))
    return tuple(found)


def each_move(web, values, stop=DOOR, slips=(), move=on, most=5000):
    """All stops from this one, by moves one by one as long as there is one, and the slips at the end."""
    stops = [stop]
    while len(stops) <= most:
        try:
            stop, slips = move(web, values, stop, slips)
        except NoStep:
            break
        stops.append(stop)
    return stops, slips


def each_move_back(web, values, stop, slips):
    return each_move(web, values, stop, slips, back)


def all_let_by():
    return all(look(program) == "num" for program, values in tried())
