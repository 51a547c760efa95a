"""[29, 30] Leaps: stop by stop, and their stops with all slips cut."""

import unittest

from stillweb.errors import TooLong
from stillweb.gates import on
from stillweb.leaps import leapt
from stillweb.slips import slip_for
from stillweb.walk import walked
from stillweb.webs import depth_at
from tests.moves import ON, has_form, num, slip, web_of
from tests.refusals import WalkRefusals
from tests.runs import RUNS, SUM_TO
from tests.samples import all_plain
from tests.walks import DOOR, each_move, ended

# (text, values, stops but for the door's, slips)
BY_HAND = (
    ("inputs tell 7", (), [(0, "out", 7, (), (), ())], ()),
    ("inputs n tell ( call ( fn x num ( + x x ) ) n )", (3,), [
        (1, "in", None, (ON,), (), ()),
        (2, "in", None, (), (), ()),
        (3, "in", None, (), (), ()),
        (1, "out", None, (slip(0),), (), ()),
        (5, "in", None, (), (slip(0),), ()),
        (5, "out", 3, (), (slip(0),), ()),
        (3, "out", 3, (), (), ()),
        (4, "in", None, (), (num(3),), ()),
        (1, "out", None, (slip(1),), (), ()),
        (5, "in", None, (), (slip(1),), ()),
        (5, "out", 3, (), (slip(1),), ()),
        (4, "out", 3, (), (num(3),), ()),
        (2, "out", 6, (), (), ((3, 3),)),
        (1, "out", 6, (ON,), (), ((3, 3),)),
        (0, "out", 6, (), (), ((3, 3),)),
    ], ((3, ()), (4, (num(3),)))),
    # A slip keeps the whole log, though the name's depth is 0.
    ("inputs tell ( + 1 ( call ( fn x num x ) 3 ) )", (), [
        (1, "in", None, (), (), ()),
        (1, "out", 1, (), (), ()),
        (2, "in", None, (), (num(1),), ()),
        (3, "in", None, (ON,), (num(1),), ()),
        (4, "in", None, (), (num(1),), ()),
        (3, "out", None, (slip(0),), (num(1),), ()),
        (5, "in", None, (), (slip(0), num(1)), ()),
        (5, "out", 3, (), (slip(0), num(1)), ()),
        (4, "out", 3, (), (num(1),), ()),
        (3, "out", 3, (ON,), (num(1),), ()),
        (2, "out", 3, (), (num(1),), ()),
        (0, "out", 4, (), (), ((1, 3),)),
    ], ((4, (num(1),)),)),
    ("inputs tell ( + 1 ( rec x num 5 ) )", (), [
        (1, "in", None, (), (), ()),
        (1, "out", 1, (), (), ()),
        (2, "in", None, (), (num(1),), ()),
        (3, "in", None, (), (slip(0), num(1)), ()),
        (3, "out", 5, (), (slip(0), num(1)), ()),
        (2, "out", 5, (), (num(1),), ()),
        (0, "out", 6, (), (), ((1, 5),)),
    ], ((2, (num(1),)),)),
    ("inputs tell ( + 1 ( let x 4 ( + 2 x ) ) )", (), [
        (1, "in", None, (), (), ()),
        (1, "out", 1, (), (), ()),
        (2, "in", None, (), (num(1),), ()),
        (4, "in", None, (), (num(1),), ()),
        (5, "in", None, (), (num(1),), ()),
        (5, "out", 2, (), (num(1),), ()),
        (6, "in", None, (), (num(2), num(1)), ()),
        (3, "in", None, (), (slip(0), num(1)), ()),
        (3, "out", 4, (), (slip(0), num(1)), ()),
        (6, "out", 4, (), (num(2), num(1)), ()),
        (4, "out", 6, (), (num(1),), ((2, 4),)),
        (2, "out", 6, (), (num(1),), ((2, 4),)),
        (0, "out", 7, (), (), ((2, 4), (1, 6))),
    ], ((6, (num(2), num(1))),)),
)


def leap(web, values, stop, slips):
    """The next stop of a messenger who leaps, by the words of 29."""
    wire, way, value, tape, log, roll = stop
    word, note, inside, above, level, bound = web[wire]
    if way == "in" and word == "name":
        k, slips = slip_for(slips, (wire, log))
        rest = log[level - web[bound][4]:]
        if web[bound][0] == "fn":
            return (bound, "out", value, (slip(k),) + tape, rest, roll), slips
        return (web[bound][2][0], "in", value, tape, (slip(k),) + rest, roll), slips
    if way == "in" and word == "rec":
        k, slips = slip_for(slips, (wire, log))
        return (inside[0], "in", value, tape, (slip(k),) + log, roll), slips
    if way == "out" and above is not None:
        place = (web[above][0], web[above][2].index(wire))
        if place in (("call", 1), ("let", 0), ("rec", 0)) and log and log[0][0] == "slip":
            gate, kept = slips[log[0][1]]
            return (gate, "out", value, tape, kept, roll), slips
    return on(web, values, stop, slips)


def all_cut(web, slips, table, leaping):
    """For each slip a number in the table, by its gate and entries, cut where it is a leaper's."""
    numbers = []
    for gate, entries in slips:
        kept = entries[:depth_at(web, gate)] if leaping else entries
        row = tuple(slip(numbers[e[1]]) if e[0] == "slip" else e for e in kept)
        numbers.append(table.setdefault((gate, row), len(table)))
    return numbers


def read_by(stop, numbers):
    def row(entries):
        return tuple(slip(numbers[e[1]]) if e[0] == "slip" else e for e in entries)

    return stop[:3] + (row(stop[3]), row(stop[4]), stop[5])


class Leapt(WalkRefusals, unittest.TestCase):
    tell = leapt
    move = leap

    def test_by_hand(self):
        for text, values, stops, slips in BY_HAND:
            told = leapt(web_of(text), values, 100)
            self.assertEqual(told, (stops[-1][2], [DOOR] + stops, slips), text)

    def test_numbers(self):
        for text, values, number in RUNS:
            web, given = web_of(text), list(values)
            told = leapt(web, given, 2000)
            self.assertEqual(told[0], number, text)
            self.assertEqual(given, list(values))
            self.assertEqual(leapt(web, values, 2000), told)
            self.assertEqual([type(part) for part in told], [int, list, tuple])
            self.assertTrue(all(all_plain(stop) and has_form(web, stop, told[2]) for stop in told[1]))
            self.assertTrue(all_plain(told[2]))

    def test_stop_by_stop(self):
        for program, web, values, number, stops, slips in ended():
            told = leapt(web, values, 600)
            self.assertEqual(told[1:], each_move(web, values, move=leap))
            self.assertEqual(told[0], number)

    def test_cut_its_stops_are_stops_of_the_walk_in_their_order(self):
        fewer = 0
        for program, web, values, number, stops, slips in ended():
            told, leaps, leapers = leapt(web, values, 600)
            table = {}
            walk_numbers, leap_numbers = all_cut(web, slips, table, False), all_cut(web, leapers, table, True)
            walk = [read_by(stop, walk_numbers) for stop in stops]
            cut = [read_by(stop, leap_numbers) for stop in leaps]
            self.assertEqual((cut[0], cut[-1]), (walk[0], walk[-1]))
            rest = iter(walk)
            self.assertTrue(all(stop in rest for stop in cut))
            self.assertLessEqual(len(leaps), len(stops))
            fewer += len(leaps) < len(stops)
        self.assertGreater(fewer, 100)

    def test_recs_within_recs_and_functions_handed_to_functions(self):
        inner = "( rec g < num num > ( fn y num ( if y ( + x ( call g ( - y 1 ) ) ) 0 ) ) )"
        times = f"( rec f < num num > ( fn x num ( if x ( + ( call {inner} 2 ) ( call f ( - x 1 ) ) ) 1 ) ) )"
        web = web_of(f"inputs n tell ( call {times} n )")
        self.assertEqual(leapt(web, (2,), 2000)[0], walked(web, (2,), 2000)[0])
        self.assertEqual(leapt(web, (2,), 2000)[0], 7)
        self.assertEqual(leapt(web, (2,), 2000)[1:], each_move(web, (2,), move=leap))

    def test_just_most_moves_and_one_more(self):
        for program, web, values, number, stops, slips in ended()[::2]:
            told = leapt(web, values, 600)
            moves = len(told[1]) - 1
            self.assertEqual(leapt(web, values, moves), told)
            for most in (moves - 1, moves // 2):
                if 1 <= most < moves:
                    with self.assertRaises(TooLong) as caught:
                        leapt(web, values, most)
                    self.assertEqual(caught.exception.most, most)

    def test_fewer_moves_than_the_walk_may_be_most(self):
        web = web_of("inputs n tell ( call ( fn x num ( + x x ) ) n )")
        self.assertEqual(leapt(web, (3,), 15)[0], 6)
        self.assertRaises(TooLong, walked, web, (3,), 15)
        self.assertRaises(TooLong, leapt, web, (3,), 14)

    def test_slips_hundreds_deep(self):
        web = web_of("inputs n tell ( call ( rec f < num num > ( fn x num ( if x ( call f ( - x 1 ) ) 9 ) ) ) n )")
        number, stops, slips = leapt(web, (60,), 10 ** 5)
        self.assertEqual(number, 9)
        self.assertGreater(len(slips), 100)

    def test_what_is_told_is_the_askers_own(self):
        web = web_of(f"inputs n tell ( call {SUM_TO} n )")
        values = [2]
        number, stops, slips = leapt(web, values, 500)
        kept = list(stops)
        stops.reverse()
        values[0] = 3
        self.assertEqual(leapt(web, [2], 500), (number, kept, slips))


if __name__ == "__main__":
    unittest.main()
