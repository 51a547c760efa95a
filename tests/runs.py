"""Programs by their texts, with values, and the numbers that they come to."""

LESS_ONE = "( - x 1 )"
SUM_TO = f"( rec f < num num > ( fn x num ( if x ( + x ( call f {LESS_ONE} ) ) 0 ) ) )"
FIB = f"( rec f < num num > ( fn x num ( if ( < x 2 ) x ( + ( call f {LESS_ONE} ) ( call f ( - x 2 ) ) ) ) ) )"
EVEN = f"( rec f < num num > ( fn x num ( if ( < x 2 ) ( = x 0 ) ( call f ( - x 2 ) ) ) ) )"
TWICE = "( fn f < num num > ( fn x num ( call f ( call f x ) ) ) )"
INC = "( fn x num ( + x 1 ) )"
THRICE = "( fn t < < num num > < num num > > ( fn f < num num > ( call t ( call t f ) ) ) )"

# (text, values, number)
RUNS = (
    ("inputs tell 7", (), 7),
    ("inputs n tell n", (5,), 5),
    ("inputs n tell ( + n n )", (21,), 42),
    ("inputs a b c d tell ( - ( * a b ) ( + c d ) )", (6, 7, 1, 1), 40),
    ("inputs a b tell ( if ( < a b ) b a )", (3, 8), 8),
    ("inputs a b tell ( if ( < a b ) b a )", (8, 3), 8),
    (f"inputs n tell ( call {INC} n )", (4,), 5),
    (f"inputs n tell ( call ( call {TWICE} {INC} ) n )", (4,), 6),
    (f"inputs n tell ( call ( call ( call {THRICE} {TWICE} ) {INC} ) n )", (0,), 4),
    (f"inputs n tell ( let g {INC} ( + ( call g n ) ( call g ( call g n ) ) ) )", (1,), 5),
    ("inputs n tell ( let x n ( let x ( + x 1 ) ( * x x ) ) )", (3,), 16),
    ("inputs tell ( let x ( rec y num y ) 3 )", (), 3),
    (f"inputs n tell ( call {SUM_TO} n )", (3,), 6),
    (f"inputs n tell ( call {FIB} n )", (3,), 2),
    (f"inputs n tell ( call {EVEN} n )", (5,), 0),
    (f"inputs n tell ( call {EVEN} n )", (4,), 1),
    ("inputs n tell ( call ( fn g < num num > ( + ( call g 1 ) ( call g 2 ) ) ) ( fn x num ( * x n ) ) )", (10,), 30),
    ("inputs x tell ( call ( call ( fn x num ( fn y num ( - x y ) ) ) ( + x 5 ) ) x )", (9,), 5),
)
