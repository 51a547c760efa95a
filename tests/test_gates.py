"""[16 to 20] Going on: each row, and where nothing fits."""

import unittest

from stillweb.errors import NoStep, WebError
from stillweb.gates import on
from stillweb.plain import plain
from stillweb.reader import read
from stillweb.webs import laid
from tests.moves import (LETS_HOME, ON, RECS_HOME, RECS_SLIPS, SUMS_HOME, SUMS_SLIPS, all_moves, far, has_form, num,
                         slip)
from tests.runs import RUNS
from tests.samples import BIGGEST, all_plain

DOOR = (0, "in", None, (), (), ())


class Going(unittest.TestCase):
    def goes(self, home, stop, then, slips):
        web, values, there = home
        told = on(web, values, stop, there)
        self.assertEqual(told, (then, slips), stop)
        self.assertIs(type(told), tuple)
        self.assertTrue(all_plain(told))
        self.assertTrue(has_form(web, *told))

    def ends(self, home, wire, way, value=None, tape=(), log=(), roll=()):
        web, values, slips = home
        with self.assertRaises(NoStep) as held:
            on(web, values, (wire, way, value, tape, log, roll), slips)
        self.assertIs(type(held.exception), NoStep)
        self.assertIsInstance(held.exception, WebError)


class Rows(Going):
    def test_each_row_and_what_stays(self):
        for home, stop, then, new in all_moves():
            self.goes(home, stop, then, home[2] + new)

    def test_the_values_of_inputs(self):
        for values in ((0, 1), [0, 1], (BIGGEST, 5), [7, 7]):
            kept = list(values)
            for wire, k in ((2, 0), (3, 1)):
                self.goes((SUMS_HOME[0], values, ()), (wire, "in", None, (), (), ()),
                          (wire, "out", values[k], (), (), ()), ())
            self.assertEqual(list(values), kept)

    def test_each_sign(self):
        for s, n, m, number in (("+", 9, 4, 13), ("-", 9, 4, 5), ("-", 4, 9, 0), ("*", 9, 4, 36), ("<", 4, 9, 1),
                                ("<", 9, 4, 0), ("=", 4, 4, 1), ("=", 4, 9, 0), ("*", 10 ** 9, 10 ** 9, 0)):
            web = laid(read(f"inputs tell ( {s} {n} {m} )"))
            self.goes((web, (), ()), (2, "out", m, (), (num(n), num(1)), ((5,),)),
                      (0, "out", number, (), (num(1),), ((5,), (n, m))), ())

    def test_a_slip_is_written_behind_all_where_there_is_none(self):
        for slips in ((), ((8, ()),), SUMS_SLIPS[:1] + SUMS_SLIPS[2:]):
            home = (SUMS_HOME[0], SUMS_HOME[1], slips)
            self.goes(home, (9, "in", None, (), (num(4), num(5)), ()),
                      (6, "out", None, (slip(len(slips)),), (num(5),), ()), slips + ((9, (num(4),)),))

    def test_a_recs_own_slip_is_written_once(self):
        web, values, slips = RECS_HOME
        self.goes((web, values, ()), (1, "in", None, (ON,), (), ()), (2, "in", None, (ON,), (slip(0),), ()), ((1, ()),))
        others = ((6, (num(2), num(3))), (1, (num(1),)))
        self.goes((web, values, others), (1, "in", 4, (), (far(1),), ()), (2, "in", 4, (), (slip(2), far(1)), ()),
                  others + ((1, ()),))
        self.goes((web, values, slips), (1, "in", 4, (), (far(1),), ()), (2, "in", 4, (), (slip(0), far(1)), ()), slips)

    def test_the_first_of_two_slips_that_are_the_same(self):
        web, values, slips = SUMS_HOME
        twice = ((8, (num(4),)), (8, ()), (8, ()))
        self.goes((web, values, twice), (8, "in", None, (), (), ()), (6, "out", None, (slip(1),), (), ()), twice)

    def test_names_of_the_same_binder_are_told_apart(self):
        web, values, slips = SUMS_HOME
        self.goes(SUMS_HOME, (6, "in", 5, (slip(0),), (num(8),), ()), (8, "out", 5, (), (num(8),), ()), slips)
        self.goes(SUMS_HOME, (6, "in", 5, (slip(1),), (num(8),), ()), (9, "out", 5, (), (num(4), num(8)), ()), slips)

    def test_lets_and_recs_at_the_top_of_what_they_bind(self):
        web = laid(read("inputs tell ( let x 1 ( fn y num ( rec z num ( + x ( + y z ) ) ) ) )"))
        # 5 is the x, two boxes below the let.
        self.assertEqual(web[5], ("name", None, (), 4, 1, 0))
        self.goes((web, (), ()), (5, "in", None, (), (num(1), num(2)), ()),
                  (1, "in", None, (), (slip(0), num(2)), ()), ((5, (num(1),)),))

    def test_hundreds_deep_within_one_another(self):
        web, values, slips = RECS_HOME
        deep = ((1, ()),)
        for k in range(199):
            deep += ((6, (num(k), slip(k))),)
        self.goes((web, values, deep), (6, "in", None, (ON,), (num(3), slip(199), num(8)), ()),
                  (2, "in", None, (ON,), (slip(200), num(8)), ()), deep + ((6, (num(3), slip(199))),))
        self.goes((web, values, deep), (2, "out", 4, (), (slip(199), num(8)), ()),
                  (6, "out", 4, (), (num(198), slip(198), num(8)), ()), deep)


class NoNext(Going):
    def test_out_at_wire_0(self):
        for home in (SUMS_HOME, LETS_HOME, RECS_HOME, (laid(read("inputs tell 7")), (), ())):
            for value in (None, 0, 7):
                for tape in ((), (ON,), (far(0),)):
                    self.ends(home, 0, "out", value, tape, (num(1),), ((1,),))

    def test_num_and_input(self):
        for wire in (2, 3, 4, 10):
            for value in (0, 3, 5, 7):
                self.ends(SUMS_HOME, wire, "in", value)
            for entry in (ON, slip(0), far(0)):
                self.ends(SUMS_HOME, wire, "in", None, (entry,))
                self.ends(SUMS_HOME, wire, "in", None, (entry, ON), (num(1),))

    def test_op_and_if_in(self):
        for wire in (0, 1, 7):
            for value in (0, 7):
                self.ends(SUMS_HOME, wire, "in", value)
            for entry in (ON, slip(0), far(0)):
                self.ends(SUMS_HOME, wire, "in", None, (entry,))

    def test_fn_in(self):
        self.ends(SUMS_HOME, 6, "in")
        self.ends(SUMS_HOME, 6, "in", 7, (), (slip(0),))
        self.ends(SUMS_HOME, 6, "in", None, (far(0),))
        self.ends(SUMS_HOME, 6, "in", None, (far(8), ON))
        # slips with another count of entries, and of other gates
        for k in range(4, 9):
            self.ends(SUMS_HOME, 6, "in", None, (slip(k),), (num(1), num(2)))
            self.ends(SUMS_HOME, 6, "in", 5, (slip(k), ON), (num(1), num(2)))
        for k in (0, 1, 4, 5, 6, 7, 8):
            self.ends(RECS_HOME, 2, "in", None, (slip(k),), (num(1), num(2)))
        for k in (0, 1, 2, 3, 4, 6, 7):
            self.ends(LETS_HOME, 1, "in", None, (slip(k),), (num(1), num(2)))

    def test_name_in_with_too_few_entries_in_the_log(self):
        for tape in ((), (ON,), (slip(0),)):
            self.ends(SUMS_HOME, 9, "in", None, tape)
            self.ends(LETS_HOME, 6, "in", None, tape)
            for log in ((), (num(1),), (slip(0),), (far(0),)):
                self.ends(RECS_HOME, 6, "in", None, tape, log)
                self.ends(RECS_HOME, 8, "in", 4, tape, log)

    def test_f_of_a_call_out(self):
        self.ends(SUMS_HOME, 6, "out")
        self.ends(SUMS_HOME, 6, "out", 7, (), (slip(0),))
        self.ends(LETS_HOME, 4, "out", None, (), (slip(0), num(1)))

    def test_a_of_a_call_out(self):
        for value in (None, 5):
            for tape in ((), (slip(0),), (ON,)):
                self.ends(SUMS_HOME, 10, "out", value, tape)
                self.ends(SUMS_HOME, 10, "out", value, tape, (num(5),))
                self.ends(SUMS_HOME, 10, "out", value, tape, (num(5), slip(0)))

    def test_a_of_a_let_out(self):
        for value in (None, 5):
            self.ends(LETS_HOME, 1, "out", value)
            self.ends(LETS_HOME, 1, "out", value, (slip(0),))
            for entry in (num(0), far(0), slip(3), slip(4), slip(5), slip(6), slip(7)):
                self.ends(LETS_HOME, 1, "out", value, (), (entry, slip(0)))

    def test_b_of_a_rec_out(self):
        for value in (None, 5):
            self.ends(RECS_HOME, 2, "out", value)
            self.ends(RECS_HOME, 2, "out", value, (slip(0),))
            for entry in (num(0), far(0), slip(2), slip(3), slip(4), slip(5), slip(7), slip(8)):
                self.ends(RECS_HOME, 2, "out", value, (), (entry, slip(0)))

    def test_a_slip_of_another_recs_own(self):
        web = laid(read("inputs tell ( + ( rec x num x ) ( rec y num y ) )"))
        self.ends((web, (), ((1, ()),)), 4, "out", 5, (), (slip(0),))
        self.ends((web, (), ((4, ()),)), 4, "out", 5, (), (slip(0),))
        self.ends((web, (), ((4, (num(1),)),)), 2, "out", 5, (), (slip(0),))

    def test_a_of_an_op_out(self):
        for wire in (1, 8):
            self.ends(SUMS_HOME, wire, "out", None, (), (num(1),))
            for entry in (ON, slip(0), far(0)):
                self.ends(SUMS_HOME, wire, "out", 5, (entry,), (num(1),))

    def test_b_of_an_op_out(self):
        for wire in (5, 9):
            self.ends(SUMS_HOME, wire, "out", None, (), (num(1),))
            self.ends(SUMS_HOME, wire, "out", 5)
            self.ends(SUMS_HOME, wire, "out", 5, (), (slip(0), num(1)))
            self.ends(SUMS_HOME, wire, "out", 5, (), (far(0), num(1)))
            for entry in (ON, slip(0), far(0)):
                self.ends(SUMS_HOME, wire, "out", 5, (entry,), (num(1),))

    def test_c_of_an_if_out(self):
        self.ends(SUMS_HOME, 2, "out")
        self.ends(SUMS_HOME, 2, "out", None, (), (num(1),))
        for entry in (ON, slip(0), far(0)):
            self.ends(SUMS_HOME, 2, "out", 5, (entry,))
            self.ends(SUMS_HOME, 2, "out", 0, (entry,))

    def test_a_and_b_of_an_if_out(self):
        for wire, right, wrong in ((3, (1, 3, BIGGEST), (0,)), (4, (0,), (1, 3, BIGGEST))):
            self.ends(SUMS_HOME, wire, "out", 5)
            self.ends(SUMS_HOME, wire, "out", 5, (), (slip(0), num(right[0])))
            self.ends(SUMS_HOME, wire, "out", 5, (), (far(0), num(right[0])))
            for n in right:
                self.ends(SUMS_HOME, wire, "out", None, (), (num(n),))
                for entry in (ON, slip(0), far(0)):
                    self.ends(SUMS_HOME, wire, "out", 5, (entry,), (num(n),))
            for n in wrong:
                self.ends(SUMS_HOME, wire, "out", 5, (), (num(n),))
                self.ends(SUMS_HOME, wire, "out", 0, (), (num(n),))


class FromTheDoor(Going):
    def test_the_messenger_comes_out_with_the_number(self):
        for text, values, number in RUNS:
            program = read(text)
            web = laid(program)
            stop, slips, moves = DOOR, (), 0
            while stop[:2] != (0, "out"):
                stop, then = on(web, values, stop, slips)
                self.assertEqual(then[:len(slips)], slips)
                self.assertLessEqual(len(then), len(slips) + 1)
                slips, moves = then, moves + 1
                self.assertEqual(len(stop[4]), web[stop[0]][4])
            self.assertEqual(stop[:5], (0, "out", number, (), ()), text)
            self.assertGreater(moves, 2 * plain(program, values, 2000)[1])

    def test_a_whole_walk(self):
        web = laid(read("inputs n tell ( call ( fn x num ( + x 1 ) ) n )"))
        stop, slips = DOOR, ()
        for at, due in enumerate((
            (1, "in", None, (ON,), (), ()), (2, "in", None, (), (), ()), (3, "in", None, (), (), ()),
            (1, "out", None, (slip(0),), (), ()), (5, "in", None, (), (slip(0),), ()),
            (5, "out", 4, (), (slip(0),), ()), (1, "in", 4, (slip(0),), (), ()), (3, "out", 4, (), (), ()),
            (4, "in", None, (), (num(4),), ()), (4, "out", 1, (), (num(4),), ()), (2, "out", 5, (), (), ((4, 1),)),
            (1, "out", 5, (ON,), (), ((4, 1),)), (0, "out", 5, (), (), ((4, 1),)),
        )):
            stop, slips = on(web, (4,), stop, slips)
            self.assertEqual(stop, due)
            self.assertEqual(slips, ((3, ()),) if at >= 3 else ())

    def test_nothing_is_changed_or_kept(self):
        web, values, slips = RECS_HOME
        stop = (6, "in", None, (ON,), (num(7), slip(0), far(1)), ((1, 2),))
        first = on(web, values, stop, slips)
        on(web, values, (6, "in", None, (), (num(8), num(9)), ()), slips)
        self.assertEqual(on(web, values, stop, slips), first)
        self.assertEqual(stop, (6, "in", None, (("on",),), (("num", 7), ("slip", 0), ("far", 1)), ((1, 2),)))
        self.assertEqual(slips, RECS_SLIPS)
        self.assertEqual(web, laid(read(
            "inputs n tell ( call ( rec f < num num > ( fn x num ( if x ( call f ( - x 1 ) ) 9 ) ) ) n )")))


if __name__ == "__main__":
    unittest.main()
