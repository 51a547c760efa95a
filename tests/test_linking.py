"""[27] Linking: the call of two webs by crossings to and fro."""

import unittest
from functools import lru_cache

from stillweb.errors import TooLong
from stillweb.linking import linked
from stillweb.looker import look
from stillweb.reader import read
from stillweb.walk import walked
from stillweb.webs import laid
from tests.drawn import Draw, drawn_term
from tests.moves import ON, far, slip
from tests.runs import EVEN, INC, SUM_TO, TWICE
from tests.samples import FUN, NUM, all_plain
from tests.walks import BUILDERS, FUNS

GIVEN_KINDS = (NUM, FUN, (NUM, FUN), (FUN, NUM), (FUN, FUN), ((FUN, NUM), NUM), (FUN, (FUN, NUM)))

# (inputs, first term, second term, values, number)
BY_HAND = (
    ("", "( fn x num 5 )", "( rec y num y )", (), 5),
    ("", "( fn x num x )", "8", (), 8),
    ("n", "( fn x num ( + x ( * x x ) ) )", "( + n 1 )", (2,), 12),
    ("n", INC, "n", (6,), 7),
    ("", "( fn f < num num > ( call f 7 ) )", INC, (), 8),
    ("n", "( fn f < num num > ( + ( call f 1 ) ( call f n ) ) )", "( fn x num ( * x n ) )", (10,), 110),
    ("n", "( fn f < num num > 3 )", "( rec g < num num > g )", (10,), 3),
    ("n", "( fn f < num num > ( call f ( call f n ) ) )", "( fn x num 4 )", (1,), 4),
    ("a b c d", "( fn f < num < num num > > ( - ( call ( call f a ) b ) ( call ( call f c ) d ) ) )",
     "( fn x num ( fn y num ( * x y ) ) )", (6, 7, 1, 2), 40),
    ("n", f"( fn t < < num num > < num num > > ( call ( call t {INC} ) n ) )", TWICE, (3,), 5),
    ("n", f"( fn t < < num num > < num num > > ( call ( call t ( call t {INC} ) ) n ) )", TWICE, (3,), 7),
    ("n", "( fn f < num num > ( call f n ) )", SUM_TO, (3,), 6),
    ("n", "( rec r < num num > ( fn x num ( if x ( call r ( - x 1 ) ) n ) ) )", "2", (9,), 9),
    ("n", EVEN, "( + n n )", (1,), 1),
)


def by_text(names, one, other, values, number):
    inputs = f"inputs {names} tell " if names else "inputs tell "
    return read(inputs + one), read(inputs + other), values, number


@lru_cache
def pairs():
    """Many pairs of programs that can be linked, with values, whose call comes out: (one, other, values, call)."""
    found = [by_text(*row)[:3] for row in BY_HAND]
    for builder in BUILDERS:
        first = f"inputs n tell ( fn f < num num > ( call ( call {builder} f ) n ) )"
        found += [(read(first), read(f"inputs n tell {fun}"), (2,)) for fun in FUNS]
    for builder in BUILDERS:
        first = "inputs n tell ( fn t < < num num > < num num > > ( call ( call t ( fn z num ( + z n ) ) ) 2 ) )"
        found.append((read(first), read(f"inputs n tell {builder}"), (1,)))
    for seed in range(500):
        draw = Draw(seed + 900)
        names = ("x", "y", "a", "b")[:draw.below(5)]
        kind, bound = GIVEN_KINDS[seed % len(GIVEN_KINDS)], {name: NUM for name in names}
        one = ("fn", "f", kind, drawn_term(draw, NUM, {**bound, "f": kind}, 2 + seed % 3))
        one = drawn_term(draw, (kind, NUM), bound, 3) if seed % 2 else one
        values = tuple(draw.number() for name in names)
        found.append(((names, one), (names, drawn_term(draw, kind, bound, 2 + seed % 2)), values))
    rows = []
    for one, other, values in found:
        call = laid((one[0], ("call", one[1], other[1])))
        try:
            rows.append((one, other, values, call, walked(call, values, 800)))
        except TooLong:
            continue
    return tuple(rows)


def crossings_of(call, walk, many):
    """The crossings, as the walk of the call of both goes them; so many gates are the first part's."""
    number, stops, slips = walk
    ranks, seen = [], [0, 0]
    for gate, entries in slips:
        which = 0 if gate <= many else 1
        ranks.append((which, seen[which]))
        seen[which] += 1

    def tape_in(which, tape):
        return tuple(entry if entry == ON else ("slip" if ranks[entry[1]][0] == which else "far", ranks[entry[1]][1])
                     for entry in tape)

    found, at = [], 1
    while stops[at][0] != 0:
        gate = stops[at][0]
        which = 0 if gate == 1 else 1
        end = next(k for k in range(at, len(stops)) if stops[k][:2] == (gate, "out"))
        found.append((which, stops[at][2], tape_in(which, stops[at][3]),
                      stops[end][2], tape_in(which, stops[end][3]), end - at))
        at = end + 1
    return found


class Linked(unittest.TestCase):
    def test_numbers(self):
        for row in BY_HAND:
            one, other, values, number = by_text(*row)
            self.assertEqual(look(one), (look(other), NUM))
            for given in (values, list(values)):
                self.assertEqual(linked(laid(one), laid(other), given, 2000)[0], number, row)
                self.assertEqual(list(given), list(values))

    def test_a_function_that_never_asks(self):
        told = linked(laid(read("inputs tell ( fn x num 5 )")), laid(read("inputs tell ( rec y num y )")), (), 100)
        self.assertEqual(told, (5, [(0, None, (ON,), 5, (ON,), 3)]))

    def test_a_function_that_asks_once(self):
        told = linked(laid(read("inputs n tell ( fn x num x )")), laid(read("inputs n tell n")), [6], 100)
        self.assertEqual(told, (6, [(0, None, (ON,), None, (slip(0),), 2), (1, None, (), 6, (), 1),
                                    (0, 6, (slip(0),), 6, (ON,), 2)]))

    def test_a_function_that_asks_often(self):
        one, other, values, number = by_text(*BY_HAND[5])
        told = linked(laid(one), laid(other), values, 100)
        self.assertEqual(told, (110, [
            (0, None, (ON,), None, (slip(0), ON), 4),
            (1, None, (ON,), None, (slip(0),), 3),
            (0, None, (slip(0), far(0)), 1, (slip(0), far(0)), 5),
            (1, 1, (slip(0),), 10, (ON,), 5),
            (0, 10, (slip(0), ON), None, (slip(1), ON), 5),
            (1, None, (ON,), None, (slip(0),), 3),
            (0, None, (slip(1), far(0)), 10, (slip(1), far(0)), 5),
            (1, 10, (slip(0),), 100, (ON,), 5),
            (0, 100, (slip(1), ON), 110, (ON,), 4),
        ]))

    def test_slips_and_far_ones_change_places(self):
        """A function given a builder: both have slips of their own and of the other on the tape."""
        one, other, values, number = by_text(*BY_HAND[9])
        number, crossings = linked(laid(one), laid(other), values, 1000)
        words = {(row[0], entry[0], k > 0)
                 for row in crossings for tape in (row[2], row[4]) for k, entry in enumerate(tape)}
        for which in (0, 1):
            for word in ("slip", "far"):
                self.assertIn((which, word, True), words)
        for last, then in zip(crossings, crossings[1:]):
            self.assertEqual((then[0], then[1]), (1 - last[0], last[3]))
            turned = tuple({"on": entry, "slip": ("far",) + entry[1:], "far": ("slip",) + entry[1:]}[entry[0]]
                           for entry in (last[4][1:] if last[0] == 0 else last[4]))
            self.assertEqual(turned, then[2] if last[0] == 0 else then[2][1:])

    def test_crossings_are_those_of_the_walk_of_the_call(self):
        counts = []
        for one, other, values, call, walk in pairs():
            told = linked(laid(one), laid(other), values, 800)
            self.assertEqual(told, (walk[0], crossings_of(call, walk, len(laid(one)))))
            self.assertEqual([type(part) for part in told], [int, list])
            self.assertTrue(all(all_plain(row) for row in told[1]))
            moves = sum(row[5] for row in told[1]) + len(told[1]) + 1
            self.assertEqual(moves, len(walk[1]) - 1)
            counts.append(len(told[1]))
        self.assertGreater(len(counts), 300)
        self.assertGreater(sum(count > 5 for count in counts), 40)
        self.assertEqual({count % 2 for count in counts}, {1})

    def test_just_most_moves_and_one_more(self):
        for one, other, values, call, walk in pairs()[::2]:
            moves = len(walk[1]) - 1
            due = linked(laid(one), laid(other), values, 2000)
            self.assertEqual(linked(laid(one), laid(other), values, moves), due)
            for most in (moves - 1, moves - 2, moves // 2, 2, 1):
                with self.assertRaises(TooLong) as caught:
                    linked(laid(one), laid(other), values, most)
                self.assertEqual(caught.exception.most, most)

    def test_without_an_end(self):
        for one, other in (("( fn x num ( rec y num y ) )", "3"), ("( fn x num x )", "( rec y num ( + y 1 ) )"),
                           ("( fn f < num num > ( rec y num ( call f y ) ) )", "( fn x num x )")):
            for most in (1, 9, 500, 2000):
                with self.assertRaises(TooLong) as caught:
                    linked(laid(read(f"inputs tell {one}")), laid(read(f"inputs tell {other}")), (), most)
                self.assertEqual(caught.exception.most, most)

    def test_what_is_told_is_the_askers_own(self):
        one, other, values, number = by_text(*BY_HAND[5])
        first = linked(laid(one), laid(other), values, 100)
        kept = list(first[1])
        first[1].clear()
        self.assertEqual(linked(laid(one), laid(other), values, 100), (110, kept))


if __name__ == "__main__":
    unittest.main()
