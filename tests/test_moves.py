"""[3, 20] Every move is one-to-one: on and back undo each other, over many webs, stops and slips."""

import unittest
from itertools import product

from stillweb.backs import back
from stillweb.errors import NoStep, TooLong, TooMany
from stillweb.gates import on
from stillweb.plain import plain
from stillweb.terms import free
from stillweb.webs import depth_at, is_web, laid
from tests.drawn import KINDS, Draw, drawn_program, drawn_values
from tests.moves import LETS, ON, RECS, SUMS, all_moves, far, has_form, num, read_so, slip, web_of
from tests.samples import many_terms

DOOR = (0, "in", None, (), (), ())


def drawn_entry(draw, words, many):
    """An entry of one of these words, with slips of so many."""
    word = draw.one_of(words)
    if word == "slip" and many == 0:
        word = "far"
    if word == "on":
        return ON
    if word == "slip":
        return slip(draw.below(many))
    return (word, draw.number())


def drawn_row(draw, words, many, most):
    return tuple(drawn_entry(draw, words, many) for at in range(draw.below(most + 1)))


def drawn_slips(draw, web):
    """Slips of a web, most of them such as its names and recs have, no two the same."""
    slips = []
    fitting = [at for at, gate in enumerate(web) if gate[0] in ("name", "rec")]
    for at in range(draw.below(9)):
        gate = draw.one_of(fitting) if fitting and draw.below(5) else draw.below(len(web))
        many = draw.below(4)
        if gate in fitting and draw.below(5):
            many = depth_at(web, gate)
        entries = tuple(drawn_entry(draw, ("slip", "far", "num"), len(slips)) for place in range(many))
        if (gate, entries) not in slips:
            slips.append((gate, entries))
    return tuple(slips)


def drawn_stop(draw, web, slips):
    """A stop of a web, most of the time with as many entries as the moves there ask for."""
    value = None if draw.below(2) else draw.number()
    tape = drawn_row(draw, ("on", "slip", "slip", "far"), len(slips), 3) if draw.below(2) else ()
    log = drawn_row(draw, ("slip", "slip", "num", "far"), len(slips), 4)
    roll = tuple(tuple(draw.number() for place in range(1 + draw.below(2))) for at in range(draw.below(3)))
    return (draw.below(len(web)), draw.one_of(("in", "out")), value, tape, log, roll)


def told_or_none(move, web, values, stop, slips):
    try:
        return move(web, values, stop, slips)
    except NoStep:
        return None


class Moves(unittest.TestCase):
    def undone(self, web, values, stop, slips, seen):
        """Both ways from the stop, and what each leads to gone the other way."""
        for move, other in ((on, back), (back, on)):
            told = told_or_none(move, web, values, stop, slips)
            seen[move.__name__, told is None] = seen.get((move.__name__, told is None), 0) + 1
            if told is None:
                continue
            then, there = told
            self.assertTrue(has_form(web, then, there), (web, stop, slips, then, there))
            self.assertEqual(there[:len(slips)], slips)
            self.assertLessEqual(len(there), len(slips) + 1)
            again, slips_again = other(web, values, then, there)
            table = {}
            self.assertEqual(read_so(again, slips_again, table), read_so(stop, slips, table), (web, stop, slips))

    def test_drawn_programs(self):
        seen = {}
        for seed in range(700):
            kind = KINDS[seed % len(KINDS)]
            program = drawn_program(seed, 3, kind)
            web, values = laid(program), drawn_values(seed, program)
            draw = Draw(seed + 77)
            for turn in range(6):
                slips = drawn_slips(draw, web)
                for at in range(10):
                    self.undone(web, values, drawn_stop(draw, web, slips), slips, seen)
        self.assertEqual(len(seen), 4)
        self.assertGreater(min(seen.values()), 5000)

    def test_programs_that_are_not_let_by(self):
        seen = {}
        for seed, term in enumerate(many_terms()[::3]):
            names = tuple(free(term))
            web = laid((names, term))
            self.assertTrue(is_web(web, len(names)))
            draw = Draw(seed)
            slips = drawn_slips(draw, web)
            for at in range(12):
                self.undone(web, (0, 5)[:len(names)], drawn_stop(draw, web, slips), slips, seen)
        self.assertGreater(min(seen.values()), 2000)

    def test_many_moves_on_and_back_again(self):
        for seed in range(400):
            program = drawn_program(seed, 4)
            web, values = laid(program), drawn_values(seed, program)
            draw = Draw(seed)
            slips = drawn_slips(draw, web)
            first = stop = drawn_stop(draw, web, slips)
            kept, table, gone = slips, {}, 0
            while gone < 60 and (told := told_or_none(on, web, values, stop, slips)) is not None:
                (stop, slips), gone = told, gone + 1
            for at in range(gone):
                stop, slips = back(web, values, stop, slips)
            self.assertEqual(read_so(stop, slips, table), read_so(first, kept, table))

    def test_no_two_stops_lead_to_one(self):
        """Every stop of some webs with small tapes, logs and rolls."""
        small = web_of("inputs tell ( let x ( fn y num y ) ( call x ( if 0 ( rec z num z ) 1 ) ) )")
        for web, values, slips in (
            (SUMS, (0, 1), ((8, ()), (9, (num(1),)), (9, (slip(0),)))),
            (LETS, (), ((4, ()), (6, (slip(0),)), (6, (num(1),)))),
            (RECS, (0,), ((1, ()), (6, (num(1), slip(0))), (8, (slip(0), num(0))))),
            (small, (), ((4, ()), (7, (num(0), num(1))), (2, ()))),
        ):
            tapes = [()] + [(entry,) for entry in (ON, slip(0), slip(1), slip(2), far(0))]
            entries = (slip(0), slip(1), slip(2), num(0), num(1), far(0))
            logs = [()] + [(entry,) for entry in entries] + list(product(entries, entries))
            rolls = ((), ((0,),), ((1,),), ((1, 0),), ((0, 1),))
            came, table = {}, {}
            for stop in product(range(len(web)), ("in", "out"), (None, 0, 1), tapes, logs, rolls):
                told = told_or_none(on, web, values, stop, slips)
                if told is not None:
                    then = read_so(*told, table)
                    self.assertNotIn(then, came)
                    came[then] = stop
            self.assertGreater(len(came), 1000)
            # Nothing but these leads to stops as small as these, but for what a slip more would hold.
            for stop in product(range(len(web)), ("in", "out"), (None, 0, 1), tapes[:3], logs[:7], rolls[:3]):
                last = told_or_none(back, web, values, stop, slips)
                due = came.get(read_so(stop, slips, table))
                if due is not None:
                    self.assertEqual(read_so(*last, table), read_so(due, slips, table))
                if last is not None:
                    self.assertEqual(read_so(*on(web, values, *last), table), read_so(stop, slips, table))

    def test_slips_by_other_numbers(self):
        """Slips that nothing hangs on, put ahead of the others, change nothing but numbers."""
        for (web, values, slips), stop, then, new in all_moves()[::5]:
            more = ((0, (num(77),)), (0, (num(78), far(1)))) + tuple(
                (gate, tuple(slip(e[1] + 2) if e[0] == "slip" else e for e in kept)) for gate, kept in slips)
            moved = stop[:3] + tuple(
                tuple(slip(e[1] + 2) if e[0] == "slip" else e for e in row) for row in stop[3:5]) + stop[5:]
            table = {}
            told = read_so(*on(web, values, moved, more), table)
            self.assertEqual(told, read_so(then, slips + new, table))


class Walks(unittest.TestCase):
    def test_from_the_door_to_the_plain_runs_number_and_back(self):
        told = 0
        for seed in range(800):
            program = drawn_program(seed, 3)
            web, values = laid(program), drawn_values(seed, program)
            stop, slips, moves = DOOR, (), 0
            while stop[:2] != (0, "out") and moves < 400:
                stop, slips = on(web, values, stop, slips)
                moves += 1
            try:
                number, steps = plain(program, values, 200)
            except (TooLong, TooMany):
                continue
            if stop[:2] != (0, "out"):
                continue
            told += 1
            self.assertEqual(stop[:5], (0, "out", number, (), ()), program)
            self.assertGreater(moves, 2 * steps)
            for at in range(moves):
                stop, there = back(web, values, stop, slips)
                self.assertEqual(there, slips)
            self.assertEqual(stop, DOOR)
        self.assertGreater(told, 500)

    def test_slips_deep_within_one_another(self):
        web = web_of("inputs n tell ( call ( rec f < num num > ( fn x num ( if x ( call f ( - x 1 ) ) 9 ) ) ) n )")
        stop, slips, moves = DOOR, (), 0
        while stop[:2] != (0, "out"):
            stop, slips = on(web, (12,), stop, slips)
            moves += 1
        self.assertEqual(stop[2], 9)
        deep = []
        for gate, entries in slips:
            deep.append(1 + max([deep[entry[1]] for entry in entries if entry[0] == "slip"], default=0))
        self.assertGreater(max(deep), 12)
        for at in range(moves):
            stop, slips = back(web, (12,), stop, slips)
        self.assertEqual(stop, DOOR)

    def test_a_loop_without_end_goes_hundreds_deep(self):
        web = web_of("inputs tell ( rec x num x )")
        stop, slips = DOOR, ()
        for move in range(700):
            stop, slips = on(web, (), stop, slips)
        self.assertEqual((stop[:2], stop[4], len(slips)), ((1, "in"), (slip(699),), 700))
        self.assertEqual(slips[:3], ((0, ()), (1, (slip(0),)), (1, (slip(1),))))
        for move in range(700):
            stop, slips = back(web, (), stop, slips)
        self.assertEqual(stop, DOOR)


if __name__ == "__main__":
    unittest.main()
