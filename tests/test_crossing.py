"""[25, 26] The webs of parts, and webs crossed with whatever is in the pack."""

import unittest

from stillweb.crossing import crossed, part_web
from stillweb.errors import NoStep, TooLong
from stillweb.gates import on
from stillweb.reader import read
from stillweb.terms import parts
from stillweb.walk import walked
from stillweb.webs import is_web, laid
from tests.drawn import KINDS, Draw, drawn_program, drawn_values
from tests.moves import LETS, ON, RECS, SUMS, far, num, slip, web_of
from tests.runs import RUNS, SUM_TO
from tests.samples import BIGGEST, EACH_FORM, all_plain
from tests.test_moves import drawn_row, drawn_slips
from tests.walks import ended, tried


def free_in(term, bound=()):
    """The names that are free in a term."""
    if term[0] == "name":
        return set() if term[1] in bound else {term[1]}
    if term[0] in ("fn", "rec"):
        return free_in(term[3], bound + (term[1],))
    if term[0] == "let":
        return free_in(term[2], bound) | free_in(term[3], bound + (term[1],))
    return set().union(*[free_in(part, bound) for part in term[1:] if isinstance(part, tuple)])


def scopes_of(term):
    """For each part of a term, in reading order, the names that are bound around it."""
    if term[0] in ("num", "name"):
        return [()]
    if term[0] in ("fn", "rec"):
        return [()] + [(term[1],) + rest for rest in scopes_of(term[3])]
    if term[0] == "let":
        return [()] + scopes_of(term[2]) + [(term[1],) + rest for rest in scopes_of(term[3])]
    return [()] + [rest for part in term[1:] if isinstance(part, tuple) for rest in scopes_of(part)]


class PartWeb(unittest.TestCase):
    def test_by_hand(self):
        # 5 call (6, 10); 6 fn (7); 7 op - (8, 9); 8 and 9 names of 6; 10 num 5
        self.assertEqual(part_web(SUMS, 5), (
            ("call", None, (1, 5), None, 0, None), ("fn", None, (2,), 0, 0, None), ("op", "-", (3, 4), 1, 0, None),
            ("name", None, (), 2, 0, 1), ("name", None, (), 2, 1, 1), ("num", 5, (), 0, 1, None)))
        self.assertEqual(part_web(SUMS, 1), (
            ("if", None, (1, 2, 3), None, 0, None), ("input", 0, (), 0, 0, None), ("input", 1, (), 0, 1, None),
            ("num", 7, (), 0, 1, None)))
        self.assertEqual(part_web(SUMS, 3), (("input", 1, (), None, 0, None),))
        self.assertEqual(part_web(SUMS, 10), (("num", 5, (), None, 0, None),))

    def test_names_bound_at_the_gate_itself_within_and_outside(self):
        self.assertEqual([w for w in range(len(SUMS)) if part_web(SUMS, w) is None], [7, 8, 9])
        self.assertEqual([w for w in range(len(LETS)) if part_web(LETS, w) is None], [2, 3, 4, 5, 6])
        self.assertEqual([w for w in range(len(RECS)) if part_web(RECS, w) is None], [2, 3, 4, 5, 6, 7, 8])
        self.assertEqual(part_web(LETS, 1), (("fn", None, (1,), None, 0, None), ("name", None, (), 0, 0, 0)))

    def test_the_whole(self):
        for text, values, number in RUNS:
            self.assertEqual(part_web(web_of(text), 0), web_of(text))
        for term, inner in EACH_FORM:
            web = laid((("x", "y", "z"), term))
            self.assertEqual(part_web(web, 0), web)

    def test_each_gate_of_many_webs(self):
        seen = {True: 0, False: 0}
        words = set()
        for program, values in tried()[::2]:
            names, term = program
            web = laid(program)
            for w, (part, around) in enumerate(zip(parts(term), scopes_of(term))):
                told = part_web(web, w)
                closed = not free_in(part) & set(around)
                seen[closed] += 1
                if not closed:
                    self.assertIsNone(told)
                    continue
                words.update({part[0]} if w else ())
                self.assertEqual(told, laid((names, part)))
                self.assertTrue(is_web(told, len(names)))
                self.assertTrue(all_plain(told))
        self.assertGreater(min(seen.values()), 1000)
        self.assertEqual(len(words), 8)

    def test_an_inputs_name_bound_anew_outside(self):
        web = laid(read("inputs x tell ( + x ( let x ( * x x ) ( call ( fn y num ( - y x ) ) ( + 1 2 ) ) ) )"))
        # 0 op (1, 2); 1 input; 2 let (3, 6); 3 op (4, 5); 6 call (7, 11); 7 fn (8); 8 op (9, 10); 11 op (12, 13)
        self.assertEqual([w for w in range(14) if part_web(web, w) is None], [6, 7, 8, 9, 10])
        self.assertEqual(part_web(web, 3)[1], ("input", 0, (), 0, 0, None))
        self.assertEqual([gate[4] for gate in part_web(web, 11)], [0, 0, 1])
        self.assertEqual([gate[4] for gate in part_web(web, 2)], [0, 1, 1, 2, 0, 0, 0, 0, 1, 1, 1, 2])


INC = web_of("inputs tell ( fn x num ( + x 1 ) )")
SAME = web_of("inputs tell ( fn x num x )")
ASKING = web_of("inputs tell ( fn f < num num > ( call f 7 ) )")


def out_by_moves(web, values, value, tape, slips, most=400):
    """What crossing tells, by moves one by one; or NoStep, or None where more than so many come."""
    stop, moves = (0, "in", value, tape, (), ()), 0
    while stop[:2] != (0, "out"):
        if moves == most:
            return None
        try:
            stop, slips = on(web, values, stop, slips)
        except NoStep:
            return NoStep, moves
        moves += 1
    return stop[2], stop[3], slips, moves


class Crossed(unittest.TestCase):
    def test_asked_and_then_told(self):
        slips = ((2, ()),)
        self.assertEqual(crossed(INC, (), None, (ON,), (), 100), (None, (slip(0),), slips, 3))
        self.assertEqual(crossed(INC, (), 5, (slip(0),), slips, 100), (6, (ON,), slips, 5))
        self.assertEqual(crossed(INC, (), BIGGEST, (slip(0),), slips, 5), (0, (ON,), slips, 5))

    def test_programs_of_kind_num(self):
        for text, values, number in RUNS:
            told, stops, slips = walked(web_of(text), values, 2000)
            due = (told, (), slips, len(stops) - 1)
            self.assertEqual(crossed(web_of(text), values, None, (), (), 2000), due)
            self.assertEqual(crossed(web_of(text), list(values), None, (), (), 2000), due)
            self.assertEqual([type(part) for part in due], [int, tuple, tuple, int])

    def test_far_entries_in_and_out(self):
        slips = ((2, ()),)
        self.assertEqual(crossed(ASKING, (), None, (ON,), (), 100), (None, (slip(0), ON), slips, 3))
        for k in (0, 1, 77, BIGGEST):
            self.assertEqual(crossed(ASKING, (), None, (slip(0), far(k)), slips, 100), (7, (slip(0), far(k)), slips, 5))
        self.assertEqual(crossed(ASKING, (), 40, (slip(0), ON), slips, 100), (40, (ON,), slips, 3))

    def test_any_values_and_tapes(self):
        """A function that tells what it is given lets all by."""
        tapes = ((), (ON,), (far(3),), (slip(0),), (slip(1), ON), (far(0), slip(0), ON, far(BIGGEST)))
        slips = ((1, ()), (0, (num(4), far(2))))
        for value in (None, 0, 8, BIGGEST):
            for tape in tapes:
                told = crossed(SAME, (), value, (ON,) + tape, slips, 10)
                self.assertEqual(told, (value, (slip(0),) + tape, slips, 2))
                told = crossed(SAME, (), value, (slip(0),) + tape, slips, 10)
                self.assertEqual(told, (value, (ON,) + tape, slips, 2))
                if slip(1) not in tape and slip(0) not in tape:
                    self.assertEqual(crossed(SAME, (), value, (ON,) + tape, (), 10),
                                     (value, (slip(0),) + tape, ((1, ()),), 2))

    def test_slips_of_an_earlier_crossing(self):
        web = web_of("inputs n tell ( fn f < num num > ( + ( call f n ) ( call f 2 ) ) )")
        # 0 fn (1); 1 op (2, 5); 2 call (3, 4); 3 name of 0; 4 input; 5 call (6, 7); 6 name of 0, depth 1; 7 num
        one = ((3, ()),)
        two = one + ((6, (num(30),)),)
        self.assertEqual(crossed(web, (9,), None, (ON,), (), 50), (None, (slip(0), ON), one, 4))
        self.assertEqual(crossed(web, (9,), None, (slip(0), far(0)), one, 50), (9, (slip(0), far(0)), one, 5))
        self.assertEqual(crossed(web, (9,), 30, (slip(0), ON), one, 50), (None, (slip(1), ON), two, 5))
        self.assertEqual(crossed(web, (9,), 12, (slip(1), ON), two, 50), (42, (ON,), two, 4))

    def test_slips_handed_in_stand_ahead(self):
        there = ((4, (num(7),)), (0, ()), (2, (far(8),)))
        self.assertEqual(crossed(INC, (), None, (ON,), there, 50), (None, (slip(3),), there + ((2, ()),), 3))
        there += ((2, ()), (3, ()))
        self.assertEqual(crossed(INC, (), None, (ON,), there, 50), (None, (slip(3),), there, 3))
        self.assertEqual(crossed(INC, (), 1, (slip(3),), there, 50), (2, (ON,), there, 5))

    def test_no_step(self):
        for web, value, tape, slips in (
            (SAME, None, (), ()), (SAME, 3, (), ()), (SAME, None, (far(0),), ()),
            (SAME, None, (far(1), ON), ((1, ()),)),
            (SAME, 3, (slip(0),), ((1, (num(2),)),)), (SAME, 3, (slip(0),), ((0, ()),)),
            (web_of("inputs tell 4"), 4, (), ()), (web_of("inputs tell 4"), None, (ON,), ()),
            (web_of("inputs tell 4"), None, (far(2),), ()), (INC, None, (ON, ON), ()), (INC, 2, (ON,), ()),
            (INC, None, (slip(0),), ((2, ()),)), (web_of("inputs tell ( call 5 6 )"), None, (), ()),
        ):
            for most in (1, 2, 100):
                with self.assertRaises((NoStep, TooLong)) as caught:
                    crossed(web, (), value, tape, slips, most)
                moves = out_by_moves(web, (), value, tape, slips)[1]
                self.assertIs(type(caught.exception), NoStep if most >= moves else TooLong)

    def test_just_most_moves_and_one_more(self):
        for value, tape, slips, moves in ((None, (ON,), (), 3), (6, (slip(0),), ((2, ()),), 5)):
            self.assertEqual(crossed(INC, (), value, tape, slips, moves)[3], moves)
            for most in range(1, moves):
                with self.assertRaises(TooLong) as caught:
                    crossed(INC, (), value, tape, slips, most)
                self.assertEqual(caught.exception.most, most)
        endless = web_of("inputs tell ( fn x num ( rec y num ( + y x ) ) )")
        with self.assertRaises(TooLong) as caught:
            crossed(endless, (), None, (ON,), (), 2000)
        self.assertEqual(caught.exception.most, 2000)

    def test_by_moves_one_by_one(self):
        seen = {}
        for seed in range(1400):
            program = drawn_program(seed, 2 + seed % 2, KINDS[seed % len(KINDS)])
            web, values = laid(program), drawn_values(seed, program)
            draw = Draw(seed + 3)
            slips = drawn_slips(draw, web) if draw.below(3) else ()
            tape = drawn_row(draw, ("on", "on", "on", "slip", "far"), len(slips), 3)
            value = draw.one_of((None, None, draw.number()))
            due = out_by_moves(web, values, value, tape, slips)
            word = "long" if due is None else "stuck" if due[0] is NoStep else "out"
            seen[word] = seen.get(word, 0) + 1
            if word == "long":
                self.assertRaises(TooLong, crossed, web, values, value, tape, slips, 400)
            elif word == "stuck":
                self.assertRaises(NoStep, crossed, web, values, value, tape, slips, max(1, due[1]))
            else:
                self.assertEqual(crossed(web, values, value, tape, slips, due[3]), due)
        self.assertGreater(seen["out"], 150)
        self.assertGreater(min(seen.values()), 20)

    def test_parts_of_kind_num_as_webs(self):
        """A part without names from outside that is asked for a number tells by itself what it tells in the walk."""
        tried_parts = 0
        for program, web, values, number, stops, slips in ended()[::3]:
            for stop, then in zip(stops, stops[1:]):
                w = stop[0]
                if stop[1] != "in" or stop[3] or stop[2] is not None or part_web(web, w) is None:
                    continue
                out = next(s for s in stops[stops.index(stop):] if s[:2] == (w, "out"))
                self.assertEqual(crossed(part_web(web, w), values, None, (), (), 600)[:2], (out[2], ()))
                tried_parts += 1
        self.assertGreater(tried_parts, 500)

    def test_nothing_is_changed_or_kept(self):
        web = web_of(f"inputs n tell ( call {SUM_TO} n )")
        values = [3]
        first = crossed(web, values, None, (), (), 500)
        self.assertEqual(values, [3])
        crossed(web, [1], None, (), first[2], 500)
        self.assertEqual(crossed(web, (3,), None, (), (), 500), first)
        self.assertTrue(all_plain(first))


if __name__ == "__main__":
    unittest.main()
