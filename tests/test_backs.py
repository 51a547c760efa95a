"""[20] Going back: to the one stop from which a stop is come to, and where there is none."""

import unittest

from stillweb.backs import back
from stillweb.errors import NoStep, WebError
from stillweb.gates import on
from stillweb.reader import read
from stillweb.webs import laid
from tests.moves import (LETS_HOME, ON, RECS_HOME, RECS_SLIPS, SUMS_HOME, all_moves, far, has_form, num, slip)
from tests.runs import RUNS
from tests.samples import BIGGEST, all_plain

DOOR = (0, "in", None, (), (), ())


class Backwards(unittest.TestCase):
    def comes(self, home, stop, last, slips):
        """Going back from the stop is to the last one, with these slips."""
        web, values, there = home
        told = back(web, values, stop, there)
        self.assertEqual(told, (last, slips), stop)
        self.assertIs(type(told), tuple)
        self.assertTrue(all_plain(told))
        self.assertTrue(has_form(web, *told))

    def begins(self, home, wire, way, value=None, tape=(), log=(), roll=()):
        """Nothing leads to the stop."""
        web, values, slips = home
        with self.assertRaises(NoStep) as held:
            back(web, values, (wire, way, value, tape, log, roll), slips)
        self.assertIs(type(held.exception), NoStep)
        self.assertIsInstance(held.exception, WebError)


class Rows(Backwards):
    def test_each_row_back_and_on_again(self):
        for home, stop, then, new in all_moves():
            web, values, slips = home
            self.comes((web, values, slips + new), then, stop, slips + new)
            self.assertEqual(on(web, values, stop, slips + new), (then, slips + new))

    def test_a_slip_that_must_be_written_anew(self):
        web, values, slips = SUMS_HOME
        # out at a name of a fn: its slip is put ahead of the tape
        self.comes(SUMS_HOME, (9, "out", 5, (ON,), (num(77), far(1)), ()), (6, "in", 5, (slip(9), ON), (far(1),), ()),
                   slips + ((9, (num(77),)),))
        self.comes((web, values, ()), (8, "out", None, (), (), ()), (6, "in", None, (slip(0),), (), ()), ((8, ()),))
        # of a let and of a rec: ahead of the log
        web, values, slips = LETS_HOME
        self.comes(LETS_HOME, (6, "out", None, (ON,), (num(77), far(1)), ()),
                   (1, "out", None, (ON,), (slip(8), far(1)), ()), slips + ((6, (num(77),)),))
        web, values, slips = RECS_HOME
        self.comes(RECS_HOME, (6, "out", 5, (), (num(77), slip(0), num(2)), ((1,),)),
                   (2, "out", 5, (), (slip(9), num(2)), ((1,),)), slips + ((6, (num(77), slip(0))),))
        # a rec's own
        self.comes((web, values, ()), (1, "out", 5, (), (num(2),), ()), (2, "out", 5, (), (slip(0), num(2)), ()),
                   ((1, ()),))
        others = ((4, ()), (1, (num(1),)))
        self.comes((web, values, others), (1, "out", 5, (), (), ()), (2, "out", 5, (), (slip(2),), ()),
                   others + ((1, ()),))

    def test_a_slip_that_is_there_is_not_written_again(self):
        web, values, slips = RECS_HOME
        self.comes(RECS_HOME, (1, "out", 5, (), (num(2),), ()), (2, "out", 5, (), (slip(0), num(2)), ()), slips)
        self.comes(RECS_HOME, (6, "out", 5, (), (num(2), slip(0)), ()), (2, "out", 5, (), (slip(1),), ()), slips)
        web, values, slips = SUMS_HOME
        self.comes(SUMS_HOME, (8, "out", 5, (), (), ()), (6, "in", 5, (slip(0),), (), ()), slips)

    def test_slips_that_are_read_stay(self):
        web, values, slips = SUMS_HOME
        self.comes(SUMS_HOME, (6, "out", None, (slip(1), ON), (num(6),), ()),
                   (9, "in", None, (ON,), (num(4), num(6)), ()), slips)

    def test_the_values_of_inputs(self):
        for values in ((0, 1), [0, 1], (BIGGEST, 5)):
            for wire, k in ((2, 0), (3, 1)):
                self.comes((SUMS_HOME[0], values, ()), (wire, "out", values[k], (), (num(2),), ()),
                           (wire, "in", None, (), (num(2),), ()), ())

    def test_each_sign(self):
        for s, n, m, number in (("+", 9, 4, 13), ("-", 9, 4, 5), ("-", 4, 9, 0), ("*", 9, 4, 36), ("<", 4, 9, 1),
                                ("<", 9, 4, 0), ("=", 4, 4, 1), ("=", 4, 9, 0), ("*", 10 ** 9, 10 ** 9, 0)):
            web = laid(read(f"inputs tell ( {s} {n} {m} )"))
            self.comes((web, (), ()), (0, "out", number, (), (num(1),), ((5,), (n, m))),
                       (2, "out", m, (), (num(n), num(1)), ((5,),)), ())
            self.begins((web, (), ()), 0, "out", number + 1, (), (num(1),), ((n, m),))

    def test_out_at_wire_0_has_a_last_one(self):
        self.comes((laid(read("inputs tell 7")), (), ()), (0, "out", 7, (), (), ()), DOOR, ())
        self.comes(LETS_HOME, (0, "out", None, (far(1),), (), ()), (3, "out", None, (far(1),), (), ()), LETS_HOME[2])

    def test_hundreds_deep_within_one_another(self):
        web, values, slips = RECS_HOME
        deep = ((1, ()),)
        for k in range(199):
            deep += ((6, (num(k), slip(k))),)
        self.comes((web, values, deep), (2, "in", None, (ON,), (slip(199), num(8)), ()),
                   (6, "in", None, (ON,), (num(198), slip(198), num(8)), ()), deep)
        self.comes((web, values, deep), (6, "out", 4, (), (num(3), slip(199), num(8)), ()),
                   (2, "out", 4, (), (slip(200), num(8)), ()), deep + ((6, (num(3), slip(199))),))


class NoLast(Backwards):
    def test_in_at_wire_0(self):
        for home in (SUMS_HOME, LETS_HOME, RECS_HOME, (laid(read("inputs tell 7")), (), ())):
            for value in (None, 0, 7):
                for tape in ((), (ON,), (far(0),)):
                    self.begins(home, 0, "in", value, tape, (num(1),), ((1,),))

    def test_another_number_than_its_own(self):
        for wire, own in ((2, 3), (3, 11), (4, 7), (10, 5)):
            for value in (0, 3, 5, 7, 11, BIGGEST, None):
                if value != own:
                    self.begins(SUMS_HOME, wire, "out", value)
            for entry in (ON, slip(0), far(0)):
                self.begins(SUMS_HOME, wire, "out", own, (entry,))

    def test_out_at_a_fn(self):
        self.begins(SUMS_HOME, 6, "out")
        self.begins(SUMS_HOME, 6, "out", 5, (), (slip(0),))
        self.begins(SUMS_HOME, 6, "out", None, (far(0), ON))
        for k in range(4, 9):
            self.begins(SUMS_HOME, 6, "out", None, (slip(k), ON), (num(1), num(2)))
        for k in (0, 1, 4, 5, 6, 7, 8):
            self.begins(RECS_HOME, 2, "out", None, (slip(k),), (num(1), num(2)))

    def test_out_at_a_name_with_too_few_entries_in_the_log(self):
        for tape in ((), (ON,), (slip(0),)):
            self.begins(SUMS_HOME, 9, "out", 5, tape)
            self.begins(LETS_HOME, 6, "out", 5, tape)
            for log in ((), (num(1),), (slip(0),)):
                self.begins(RECS_HOME, 6, "out", 5, tape, log)
                self.begins(RECS_HOME, 8, "out", None, tape, log)

    def test_in_at_the_f_of_a_call(self):
        self.begins(SUMS_HOME, 6, "in")
        self.begins(SUMS_HOME, 6, "in", 5, (), (slip(0), num(1)))
        self.begins(LETS_HOME, 4, "in", None, (), (slip(0),))

    def test_in_at_the_a_of_a_call(self):
        for value in (None, 5):
            for tape in ((), (slip(0),), (ON,)):
                self.begins(SUMS_HOME, 10, "in", value, tape)
                self.begins(SUMS_HOME, 10, "in", value, tape, (num(5), slip(0)))

    def test_in_at_the_a_of_a_let(self):
        for value in (None, 5):
            self.begins(LETS_HOME, 1, "in", value)
            self.begins(LETS_HOME, 1, "in", value, (slip(0),))
            for entry in (num(0), far(0), slip(3), slip(4), slip(5), slip(6), slip(7)):
                self.begins(LETS_HOME, 1, "in", value, (), (entry, slip(0)))

    def test_in_at_the_b_of_a_rec(self):
        for value in (None, 5):
            self.begins(RECS_HOME, 2, "in", value)
            self.begins(RECS_HOME, 2, "in", value, (slip(0),))
            for entry in (num(0), far(0), slip(2), slip(3), slip(4), slip(5), slip(7), slip(8)):
                self.begins(RECS_HOME, 2, "in", value, (), (entry, slip(0)))

    def test_in_at_the_a_of_an_op_and_the_c_of_an_if(self):
        for wire in (1, 2, 8):
            for value in (0, 5):
                self.begins(SUMS_HOME, wire, "in", value, (), (num(1),))
            for entry in (ON, slip(0), far(0)):
                self.begins(SUMS_HOME, wire, "in", None, (entry,), (num(1),))

    def test_in_at_the_b_of_an_op(self):
        for wire in (5, 9):
            self.begins(SUMS_HOME, wire, "in")
            self.begins(SUMS_HOME, wire, "in", 5, (), (num(1),))
            self.begins(SUMS_HOME, wire, "in", None, (), (slip(0), num(1)))
            self.begins(SUMS_HOME, wire, "in", None, (), (far(0), num(1)))
            for entry in (ON, slip(0), far(0)):
                self.begins(SUMS_HOME, wire, "in", None, (entry,), (num(1),))

    def test_in_at_the_a_and_the_b_of_an_if(self):
        for wire, right, wrong in ((3, 2, (0,)), (4, 0, (1, 2, BIGGEST))):
            self.begins(SUMS_HOME, wire, "in")
            self.begins(SUMS_HOME, wire, "in", 5, (), (num(right),))
            self.begins(SUMS_HOME, wire, "in", 0, (), (num(right),))
            self.begins(SUMS_HOME, wire, "in", None, (), (slip(0), num(right)))
            self.begins(SUMS_HOME, wire, "in", None, (), (far(0), num(right)))
            for entry in (ON, slip(0), far(0)):
                self.begins(SUMS_HOME, wire, "in", None, (entry,), (num(right),))
            for n in wrong:
                self.begins(SUMS_HOME, wire, "in", None, (), (num(n),))

    def test_out_at_an_op(self):
        for roll in ((), ((8,),), ((5,),), ((9, 5),), ((8, 5), (8,)), ((8, 5), (9, 5)), ((0, 0),)):
            self.begins(SUMS_HOME, 0, "out", 13, (), (), roll)
            self.begins(SUMS_HOME, 7, "out", 3, (), (), roll)
        self.begins(SUMS_HOME, 0, "out", None, (), (), ((8, 5),))
        for entry in (ON, slip(0), far(0)):
            self.begins(SUMS_HOME, 0, "out", 13, (entry,), (), ((8, 5),))

    def test_out_at_an_if(self):
        for roll in ((), ((1, 2),), ((0, 0),), ((1,), (1, 2))):
            self.begins(SUMS_HOME, 1, "out", 6, (), (), roll)
        for n in (0, 1):
            self.begins(SUMS_HOME, 1, "out", None, (), (), ((n,),))
            for entry in (ON, slip(0), far(0)):
                self.begins(SUMS_HOME, 1, "out", 6, (entry,), (), ((n,),))


class ToTheDoor(Backwards):
    def test_walks_gone_back(self):
        for text, values, number in RUNS:
            web = laid(read(text))
            stops, slips = [DOOR], ()
            while stops[-1][:2] != (0, "out"):
                stop, slips = on(web, values, stops[-1], slips)
                stops.append(stop)
            stop = stops[-1]
            for due in stops[-2::-1]:
                stop, then = back(web, values, stop, slips)
                self.assertEqual((stop, then), (due, slips))
            self.assertEqual(stop, DOOR)
            self.begins((web, values, slips), *DOOR)

    def test_nothing_is_changed_or_kept(self):
        web, values, slips = RECS_HOME
        stop = (6, "out", None, (ON,), (num(7), slip(0), far(1)), ((1, 2),))
        first = back(web, values, stop, slips)
        back(web, values, (6, "out", None, (), (num(8), num(9)), ()), slips)
        self.assertEqual(back(web, values, stop, slips), first)
        self.assertEqual(stop, (6, "out", None, (("on",),), (("num", 7), ("slip", 0), ("far", 1)), ((1, 2),)))
        self.assertEqual(slips, RECS_SLIPS)
        given = [3, 11]
        back(SUMS_HOME[0], given, (2, "out", 3, (), (), ()), ())
        self.assertEqual(given, [3, 11])


if __name__ == "__main__":
    unittest.main()
