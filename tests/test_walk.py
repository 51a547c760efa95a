"""[21, 22, 24] Walks, walks gone back, and how often each wire is gone."""

import unittest

from stillweb.backs import back
from stillweb.errors import NoStep, TooLong
from stillweb.gates import on
from stillweb.plain import with_values
from stillweb.walk import gone, is_end, retraced, walked
from stillweb.webs import laid
from tests.drawn import Draw
from tests.moves import (
    LETS, LETS_SLIPS, ON, RECS, RECS_SLIPS, SUMS, SUMS_SLIPS, SUMS_VALUES, has_form, num, read_so, slip, web_of)
from tests.refusals import WalkRefusals
from tests.runs import FIB, RUNS, SUM_TO
from tests.samples import all_plain
from tests.test_moves import drawn_slips, drawn_stop
from tests.walks import DOOR, each_move, each_move_back, ended

# (text, values, stops but for the door's, slips)
BY_HAND = (
    ("inputs tell 7", (), [(0, "out", 7, (), (), ())], ()),
    ("inputs a b tell b", (3, 8), [(0, "out", 8, (), (), ())], ()),
    ("inputs n tell ( + n 2 )", (5,), [
        (1, "in", None, (), (), ()),
        (1, "out", 5, (), (), ()),
        (2, "in", None, (), (num(5),), ()),
        (2, "out", 2, (), (num(5),), ()),
        (0, "out", 7, (), (), ((5, 2),)),
    ], ()),
    ("inputs tell ( if 0 8 9 )", (), [
        (1, "in", None, (), (), ()),
        (1, "out", 0, (), (), ()),
        (3, "in", None, (), (num(0),), ()),
        (3, "out", 9, (), (num(0),), ()),
        (0, "out", 9, (), (), ((0,),)),
    ], ()),
    ("inputs tell ( if 6 8 9 )", (), [
        (1, "in", None, (), (), ()),
        (1, "out", 6, (), (), ()),
        (2, "in", None, (), (num(6),), ()),
        (2, "out", 8, (), (num(6),), ()),
        (0, "out", 8, (), (), ((6,),)),
    ], ()),
    ("inputs tell ( let x 4 x )", (), [
        (2, "in", None, (), (), ()),
        (1, "in", None, (), (slip(0),), ()),
        (1, "out", 4, (), (slip(0),), ()),
        (2, "out", 4, (), (), ()),
        (0, "out", 4, (), (), ()),
    ], ((2, ()),)),
    ("inputs tell ( rec x num 5 )", (), [
        (1, "in", None, (), (slip(0),), ()),
        (1, "out", 5, (), (slip(0),), ()),
        (0, "out", 5, (), (), ()),
    ], ((0, ()),)),
    ("inputs tell ( call ( fn x num 6 ) 3 )", (), [
        (1, "in", None, (ON,), (), ()),
        (2, "in", None, (), (), ()),
        (2, "out", 6, (), (), ()),
        (1, "out", 6, (ON,), (), ()),
        (0, "out", 6, (), (), ()),
    ], ()),
    ("inputs tell ( call ( fn x num ( + x x ) ) 3 )", (), [
        (1, "in", None, (ON,), (), ()),
        (2, "in", None, (), (), ()),
        (3, "in", None, (), (), ()),
        (1, "out", None, (slip(0),), (), ()),
        (5, "in", None, (), (slip(0),), ()),
        (5, "out", 3, (), (slip(0),), ()),
        (1, "in", 3, (slip(0),), (), ()),
        (3, "out", 3, (), (), ()),
        (4, "in", None, (), (num(3),), ()),
        (1, "out", None, (slip(1),), (), ()),
        (5, "in", None, (), (slip(1),), ()),
        (5, "out", 3, (), (slip(1),), ()),
        (1, "in", 3, (slip(1),), (), ()),
        (4, "out", 3, (), (num(3),), ()),
        (2, "out", 6, (), (), ((3, 3),)),
        (1, "out", 6, (ON,), (), ((3, 3),)),
        (0, "out", 6, (), (), ((3, 3),)),
    ], ((3, ()), (4, (num(3),)))),
)

class Walked(WalkRefusals, unittest.TestCase):
    tell = walked

    def test_by_hand(self):
        for text, values, stops, slips in BY_HAND:
            told = walked(web_of(text), values, 100)
            self.assertEqual(told, (stops[-1][2], [DOOR] + stops, slips), text)

    def test_kinds_of_values_told(self):
        for text, values, number in RUNS:
            told = walked(web_of(text), values, 2000)
            self.assertEqual([type(part) for part in told], [int, list, tuple])
            self.assertTrue(all(all_plain(stop) for stop in told[1]))
            self.assertTrue(all_plain(told[2]))
            for stop in told[1]:
                self.assertTrue(has_form(web_of(text), stop, told[2]))

    def test_numbers(self):
        for text, values, number in RUNS:
            self.assertEqual(walked(web_of(text), values, 2000)[0], number, text)

    def test_values_as_a_list_or_a_tuple_and_not_changed(self):
        for text, values, number in RUNS:
            web, given = web_of(text), list(values)
            self.assertEqual(walked(web, given, 2000), walked(web, values, 2000))
            self.assertEqual(given, list(values))

    def test_stop_by_stop_the_moves_one_by_one(self):
        for program, web, values, number, stops, slips in ended():
            self.assertEqual((list(stops), slips), each_move(web, values))
            self.assertEqual(stops[-1][:5], (0, "out", number, (), ()))

    def test_just_most_moves_and_one_more(self):
        for program, web, values, number, stops, slips in ended():
            moves = len(stops) - 1
            self.assertEqual(walked(web, values, moves), (number, list(stops), slips))
            for most in (moves - 1, moves // 2, 1):
                if 1 <= most < moves:
                    with self.assertRaises(TooLong) as caught:
                        walked(web, values, most)
                    self.assertEqual(caught.exception.most, most)

    def test_values_as_numbers_in_their_places(self):
        for program, web, values, number, stops, slips in ended():
            other = walked(laid(((), with_values(program, values))), (), 600)
            self.assertEqual(other, (number, list(stops), slips))

    def test_two_thousand_moves(self):
        number, stops, slips = walked(web_of(f"inputs n tell ( call {SUM_TO} n )"), (40,), 10 ** 5)
        self.assertEqual(number, 820)
        self.assertGreater(len(stops), 2001)
        number, stops, slips = walked(web_of(f"inputs n tell ( call {FIB} n )"), (6,), 2000)
        self.assertEqual((number, len(stops) > 1000), (8, True))

    def test_what_is_told_is_the_askers_own(self):
        web = web_of("inputs n tell ( call ( fn x num ( + x x ) ) n )")
        values = [4]
        number, stops, slips = walked(web, values, 100)
        kept = list(stops)
        stops[3] = None
        del stops[5:]
        values[0] = 9
        self.assertEqual(walked(web, (4,), 100), (number, kept, slips))
        self.assertEqual(walked(web, values, 100)[0], 18)
        self.assertEqual(walked(web, [4], 100), (number, kept, slips))


class Retraced(unittest.TestCase):
    def test_each_walk_turned_about(self):
        for program, web, values, number, stops, slips in ended():
            told = retraced(web, values, stops[-1], slips, 600)
            self.assertEqual(told, (list(stops[::-1]), slips))
            self.assertEqual([type(part) for part in told], [list, tuple])

    def test_from_the_middle_of_a_walk(self):
        for program, web, values, number, stops, slips in ended()[::5]:
            for at in range(0, len(stops), 7):
                self.assertEqual(retraced(web, list(values), stops[at], slips, 600), (list(stops[at::-1]), slips))

    def test_from_the_first_stop_alone(self):
        for web, values in ((SUMS, SUMS_VALUES), (LETS, ()), (RECS, (2,))):
            self.assertEqual(retraced(web, values, DOOR, (), 1), ([DOOR], ()))
            self.assertEqual(retraced(web, values, DOOR, ((0, ()),), 1), ([DOOR], ((0, ()),)))

    def test_slips_that_are_written_anew(self):
        # 8 is a name bound at the fn 6, which is the f of the call 5, which is the b of the op 0.
        stop = (8, "out", 5, (), (num(1),), ())
        due = [stop, (6, "in", 5, (slip(0),), (num(1),), ()), (10, "out", 5, (), (slip(0), num(1)), ()),
               (10, "in", None, (), (slip(0), num(1)), ()), (6, "out", None, (slip(0),), (num(1),), ()),
               (8, "in", None, (), (num(1),), ()), (7, "in", None, (), (num(1),), ()),
               (6, "in", None, (ON,), (num(1),), ()), (5, "in", None, (), (num(1),), ()), (1, "out", 1, (), (), ())]
        self.assertEqual(retraced(SUMS, SUMS_VALUES, stop, (), 100), (due, ((8, ()),)))
        self.assertEqual(retraced(SUMS, SUMS_VALUES, stop, ((3, ()), (8, ())), 100)[1], ((3, ()), (8, ())))

    def test_walks_with_their_slips_left_out(self):
        for program, web, values, number, stops, slips in ended()[::3]:
            told, written = retraced(web, values, stops[-1], (), 600)
            table = {}
            self.assertEqual([read_so(stop, written, table) for stop in told],
                             [read_so(stop, slips, table) for stop in stops[::-1]])
            self.assertEqual(len(written), len(slips))

    def test_stops_of_no_walk(self):
        lengths = []
        for web, values, base in ((SUMS, SUMS_VALUES, SUMS_SLIPS), (LETS, (), LETS_SLIPS), (RECS, (2,), RECS_SLIPS)):
            draw = Draw(len(web))
            for turn in range(400):
                slips = drawn_slips(draw, web) if turn % 2 else base
                stop = drawn_stop(draw, web, slips)
                stops, then = each_move_back(web, values, stop, slips)
                if len(stops) > 5000:
                    continue
                self.assertEqual(retraced(web, values, stop, slips, 5000), (stops, then))
                lengths.append(len(stops))
        self.assertGreater(sum(length > 3 for length in lengths), 100)

    def test_just_most_moves_and_one_more(self):
        for program, web, values, number, stops, slips in ended()[::2]:
            moves = len(stops) - 1
            self.assertEqual(len(retraced(web, values, stops[-1], slips, moves)[0]), len(stops))
            for most in (moves - 1, moves // 3):
                if 1 <= most < moves:
                    with self.assertRaises(TooLong) as caught:
                        retraced(web, values, stops[-1], slips, most)
                    self.assertEqual(caught.exception.most, most)

    def test_a_stop_without_a_last_one(self):
        for stop in ((2, "out", 4, (), (), ()), (0, "out", 7, (), (), ()), (0, "out", None, (), (), ())):
            self.assertRaises(NoStep, back, SUMS, SUMS_VALUES, stop, ())
            self.assertEqual(retraced(SUMS, SUMS_VALUES, stop, (), 1), ([stop], ()))

    def test_slips_hundreds_deep(self):
        web = web_of("inputs tell ( rec x num x )")
        stops, slips = each_move(web, (), most=700)
        self.assertEqual(retraced(web, (), stops[-1], slips, 2000), (stops[::-1], slips))

    def test_what_is_told_is_the_askers_own(self):
        stops, slips = each_move(SUMS, SUMS_VALUES)
        first, then = retraced(SUMS, SUMS_VALUES, stops[-1], slips, 500)
        first.clear()
        self.assertEqual(retraced(SUMS, SUMS_VALUES, stops[-1], slips, 500), (stops[::-1], slips))


class Gone(unittest.TestCase):
    def test_no_stops(self):
        self.assertEqual(gone(SUMS, []), [(0, 0)] * 11)
        self.assertEqual(gone(web_of("inputs tell 1"), []), [(0, 0)])

    def test_one_stop(self):
        for wire in range(len(LETS)):
            for way, due in (("in", (1, 0)), ("out", (0, 1))):
                rows = [(0, 0)] * len(LETS)
                rows[wire] = due
                self.assertEqual(gone(LETS, [(wire, way, None, (ON,), (num(3),), ())]), rows)

    def test_some_stops(self):
        ones = [(1, "out", 5, (), (), ()), (1, "out", None, (), (), ()), (1, "in", 5, (), (), ())]
        told = gone(LETS, [DOOR] + ones[:2] + [DOOR] + ones[2:])
        self.assertEqual(told, [(2, 0), (1, 2)] + [(0, 0)] * 6)
        self.assertEqual({type(row) for row in told}, {tuple})

    def test_walks_go_each_wire_in_as_often_as_out(self):
        for program, web, values, number, stops, slips in ended():
            told = gone(web, list(stops))
            self.assertIs(type(told), list)
            self.assertEqual(len(told), len(web))
            for wire, (ins, outs) in enumerate(told):
                self.assertEqual(ins, outs)
                self.assertEqual(ins, sum(stop[:2] == (wire, "in") for stop in stops))
            self.assertEqual(told[0], (1, 1))

    def test_walks_that_do_not_come_out(self):
        stops, slips = each_move(RECS, (2,))
        for cut in range(len(stops)):
            told = gone(RECS, stops[:cut])
            self.assertEqual(sum(ins + outs for ins, outs in told), cut)

    def test_nothing_is_changed(self):
        stops, slips = each_move(RECS, (2,))
        kept = list(stops)
        gone(RECS, stops).clear()
        self.assertEqual(stops, kept)
        self.assertEqual(len(gone(RECS, stops)), len(RECS))


class Ends(unittest.TestCase):
    def test_where_a_walk_comes_out(self):
        self.assertIs(is_end((0, "out", 0, (), (), ())), True)
        self.assertIs(is_end((0, "out", 7, (), (), ((1,), (2, 3)))), True)
        for stop in ((1, "out", 7, (), (), ()), (0, "in", 7, (), (), ()), (0, "out", None, (), (), ()),
                     (0, "out", 7, (ON,), (), ()), (0, "out", 7, (), (num(3),), ())):
            self.assertIs(is_end(stop), False)


class OneMove(unittest.TestCase):
    def test_each_stop_of_a_walk_is_the_move_of_the_one_ahead(self):
        for program, web, values, number, stops, slips in ended()[::4]:
            for stop, then in zip(stops, stops[1:]):
                self.assertEqual(on(web, values, stop, slips), (then, slips))
                self.assertEqual(back(web, values, then, slips), (stop, slips))


if __name__ == "__main__":
    unittest.main()
