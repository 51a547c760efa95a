"""[31, 32] The numbers of a stop, stands, and the machine of a web."""

import unittest

from stillweb.errors import TooMany
from stillweb.machine import machine_run
from stillweb.stands import machine_of, numbers_of, one_stand
from stillweb.terms import parts
from stillweb.walk import walked
from stillweb.webs import laid
from tests.moves import ON, num, slip, web_of
from tests.runs import RUNS, SUM_TO
from tests.samples import all_plain
from tests.trees import DOOR, as_tree, bare, machine, numbers
from tests.walks import each_move, ended, tried

# Slips within slips: 0 has none, 1 a number, 2 both of these and a number behind, 3 that one between two numbers.
SLIPS = ((3, ()), (4, (num(11),)), (5, (slip(0), slip(1), num(12))), (6, (num(13), slip(2), num(14))))


class NumbersOf(unittest.TestCase):
    def tells(self, stop, slips, due):
        told = numbers_of(stop, slips)
        self.assertEqual(told, due)
        self.assertIs(type(told), list)

    def test_values(self):
        self.tells((0, "in", None, (), (), ()), (), [])
        self.tells((0, "out", 0, (), (), ()), (), [0])
        self.tells((0, "out", 7, (ON,), (), ((8, 9), (5,))), (), [7])

    def test_logs(self):
        self.tells((0, "in", None, (), (num(5), num(0), num(6)), ()), (), [5, 0, 6])
        self.tells((0, "out", 1, (), (num(5), num(6)), ()), (), [1, 5, 6])
        self.tells((0, "out", 1, (), (slip(0), num(5), slip(1)), ()), SLIPS, [1, 5, 11])
        self.tells((0, "out", 1, (), (slip(2), num(5)), ()), SLIPS, [1, 11, 12, 5])

    def test_tapes_ahead_of_logs(self):
        self.tells((0, "in", None, (slip(1), ON), (num(5),), ()), SLIPS, [11, 5])
        self.tells((0, "out", 2, (ON, slip(2), slip(0)), (slip(1),), ()), SLIPS, [2, 11, 12, 11])

    def test_slips_within_slips(self):
        self.tells((0, "in", None, (), (slip(3),), ()), SLIPS, [13, 11, 12, 14])
        self.tells((0, "in", None, (slip(3),), (slip(3), num(1)), ()), SLIPS, [13, 11, 12, 14, 13, 11, 12, 14, 1])

    def test_hundreds_deep(self):
        slips = [(5, ())]
        for k in range(900):
            slips.append((5, (num(k), slip(k), num(1000 + k))))
        due = list(range(899, -1, -1)) + list(range(1000, 1900))
        self.tells((0, "in", None, (), (slip(900),), ()), tuple(slips), due)
        web = web_of("inputs tell ( rec x num ( + 3 x ) )")
        stops, slips = each_move(web, (), most=1600)
        self.assertGreater(len(numbers_of(stops[-1], slips)), 300)
        self.assertEqual(set(numbers_of(stops[-1], slips)), {3})

    def test_stops_of_walks(self):
        for program, web, values, number, stops, slips in ended()[::4]:
            for stop in stops:
                self.tells(stop, slips, numbers(as_tree(stop, slips)))

    def test_what_is_told_is_the_askers_own(self):
        stop = (0, "out", 1, (), (num(5), slip(1)), ())
        numbers_of(stop, SLIPS).clear()
        self.tells(stop, SLIPS, [1, 5, 11])


class OneStand(unittest.TestCase):
    def is_so(self, stop, slips, other, others, due):
        self.assertIs(one_stand(stop, slips, other, others), due)
        self.assertIs(one_stand(other, others, stop, slips), due)

    def test_alike_but_for_numbers(self):
        one = (4, "out", 5, (ON, slip(1)), (num(5), slip(2)), ((1, 2),))
        others = ((3, ()), (4, (num(99),)), (5, (slip(0), slip(1), num(98))))
        for other in (one, (4, "out", 0, (ON, slip(1)), (num(0), slip(2)), ())):
            self.is_so(one, SLIPS, other, SLIPS, True)
            self.is_so(one, SLIPS, other, others, True)

    def test_wire_way_asking_and_telling(self):
        one = (4, "out", 5, (), (num(5),), ())
        self.is_so(one, (), one, (), True)
        self.is_so(one, (), (3, "out", 5, (), (num(5),), ()), (), False)
        self.is_so(one, (), (4, "in", 5, (), (num(5),), ()), (), False)
        self.is_so(one, (), (4, "out", None, (), (num(5),), ()), (), False)
        self.is_so((4, "in", None, (), (), ()), (), (4, "in", None, (), (), ((6,),)), (), True)
        self.is_so((4, "in", None, (), (), ()), (), (4, "in", 0, (), (), ()), (), False)

    def test_entries(self):
        def stop(tape, log):
            return (4, "in", None, tape, log, ())

        one = stop((ON,), (num(5), slip(0)))
        self.is_so(one, SLIPS, stop((ON,), (num(0), slip(0))), SLIPS, True)
        for other in (stop((), (num(5), slip(0))), stop((ON, ON), (num(5), slip(0))), stop((ON,), (num(5),)),
                      stop((ON,), (num(5), slip(0), num(5))), stop((ON,), (slip(0), num(5))), stop((ON,), ()),
                      stop((slip(0),), (num(5), slip(0))), stop((ON,), (num(5), slip(1))),
                      stop((ON,), (num(5), num(0))), stop((ON, slip(0)), (num(5),))):
            self.is_so(one, SLIPS, other, SLIPS, False)
        # What is last on the one tape and what is first in the other log may not be taken for the same place.
        self.is_so(stop((slip(0),), ()), SLIPS, stop((), (slip(0),)), SLIPS, False)

    def test_slips_of_another_gate_or_with_other_entries(self):
        def stop(k):
            return (4, "in", None, (), (slip(k),), ())

        slips = ((3, ()), (4, ()), (4, (num(1),)), (4, (slip(0),)), (4, (slip(1),)), (4, (num(2), num(3))),
                 (4, (slip(2),)), (4, (slip(0), num(3))), (4, (num(2), slip(0))))
        for one in range(len(slips)):
            for other in range(len(slips)):
                self.is_so(stop(one), slips, stop(other), slips, one == other)

    def test_entries_in_a_slip_and_behind_it(self):
        slips = ((4, (num(1),)), (4, ()), (4, (slip(1), num(2))), (4, (slip(0),)))
        def stop(*log):
            return (4, "in", None, (), log, ())

        self.is_so(stop(slip(0)), slips, stop(slip(1), num(1)), slips, False)
        self.is_so(stop(slip(2)), slips, stop(slip(3)), slips, False)
        self.is_so(stop(slip(2)), slips, stop(slip(1), num(2)), slips, False)

    def test_other_numbers_of_slips_that_mean_the_same(self):
        one = (4, "in", None, (slip(2),), (slip(1), slip(0)), ())
        others = ((9, ()), (4, (num(8),)), (7, (num(3),)), (3, ()), (5, (slip(3), slip(1), num(0))))
        self.is_so(one, SLIPS, (4, "in", None, (slip(4),), (slip(1), slip(3)), ()), others, True)
        self.is_so(one, SLIPS, (4, "in", None, (slip(4),), (slip(1), slip(0)), ()), others, False)
        self.is_so(one, SLIPS, (4, "in", None, (slip(4),), (slip(2), slip(3)), ()), others, False)

    def test_hundreds_deep(self):
        def chain(last):
            slips = [last]
            for k in range(900):
                slips.append((5, (num(k * last[0]), slip(k))))
            return tuple(slips)

        stop = (4, "in", None, (), (slip(900),), ())
        self.is_so(stop, chain((6, ())), stop, chain((6, ())), True)
        self.is_so(stop, chain((6, ())), stop, chain((7, ())), False)
        self.is_so(stop, chain((6, ())), stop, chain((6, (num(1),))), False)
        self.is_so(stop, chain((6, (num(2),))), stop, chain((6, (num(1),))), True)
        self.is_so(stop, chain((6, ())), (4, "in", None, (), (slip(899),), ()), chain((6, ())), False)

    def test_stops_of_walks(self):
        seen = {True: 0, False: 0}
        for program, web, values, number, stops, slips in ended()[::6]:
            trees = [bare(as_tree(stop, slips)) for stop in stops[:60]]
            for one, tree in zip(stops, trees):
                for other, there in zip(stops, trees):
                    self.assertIs(one_stand(one, slips, other, slips), tree == there)
                    seen[tree == there] += 1
        self.assertGreater(min(seen.values()), 1000)

    def test_walks_with_other_values(self):
        web = web_of("inputs a b tell ( let f ( fn x num ( * x a ) ) ( + ( call f b ) ( call f ( call f 2 ) ) ) )")
        number, stops, slips = walked(web, (3, 4), 500)
        number, others, other_slips = walked(web, (7, 7), 500)
        self.assertEqual(len(stops), len(others))
        for one, other in zip(stops, others):
            self.is_so(one, slips, other, other_slips, True)


class MachineOf(unittest.TestCase):
    def test_by_hand(self):
        self.assertEqual(machine_of(web_of("inputs tell 7"), 300), ((0, "in", ("put", 7, 1)), (0, "out", ("end",))))
        self.assertEqual(machine_of(web_of("inputs a b tell b"), 2), ((0, "in", ("input", 1, 1)), (0, "out", ("end",))))

    def follow(self, rows, at, *ways):
        """The rows gone through from a row, each by its deed, at a test by its k or its j."""
        found, ways = [rows[at]], list(ways)
        while found[-1][2] != ("end",):
            deed = found[-1][2]
            found.append(rows[deed[ways.pop(0)] if deed[0] == "test" else deed[-1]])
        return [(row[0], row[1]) + (row[2][:-1] if row[2][0] != "test" else ("test",)) for row in found]

    def test_an_op(self):
        rows = machine_of(web_of("inputs n tell ( - n 2 )"), 300)
        self.assertEqual(self.follow(rows, 0), [
            (0, "in", "move", ()), (1, "in", "input", 0), (1, "out", "move", (0,)), (2, "in", "put", 2),
            (2, "out", "op", "-"), (0, "out")])
        self.assertEqual(len(rows), 6)

    def test_both_ways_of_an_if(self):
        rows = machine_of(web_of("inputs tell ( if 1 8 9 )"), 300)
        self.assertEqual(self.follow(rows, 0, 1), [
            (0, "in", "move", ()), (1, "in", "put", 1), (1, "out", "test"), (2, "in", "put", 8),
            (2, "out", "move", (0,)), (0, "out")])
        self.assertEqual(self.follow(rows, 0, 2), [
            (0, "in", "move", ()), (1, "in", "put", 1), (1, "out", "test"), (3, "in", "put", 9),
            (3, "out", "move", (0,)), (0, "out")])
        # Both ways come out at one stand.
        self.assertEqual(len(rows), 8)

    def test_an_if_within_leaves_one_number_out(self):
        rows = machine_of(web_of("inputs n tell ( + 5 ( if n 8 9 ) )"), 300)
        for way, wire in ((1, 4), (2, 5)):
            self.assertIn((wire, "out", "move", (0, 2)), self.follow(rows, 0, way))

    def test_a_name_with_numbers_in_its_slip(self):
        rows = machine_of(web_of("inputs n tell ( call ( fn x num ( + 1 x ) ) n )"), 300)
        # 0 call (1, 5); 1 fn (2); 2 op (3, 4); 3 num; 4 name of 1, depth 1; 5 input
        self.assertEqual(self.follow(rows, 0), [
            (0, "in", "move", ()), (1, "in", "move", ()), (2, "in", "move", ()), (3, "in", "put", 1),
            (3, "out", "move", (0,)), (4, "in", "move", (0,)), (1, "out", "move", (0,)), (5, "in", "input", 0),
            (5, "out", "move", (0, 1)), (1, "in", "move", (0, 1)), (4, "out", "op", "+"), (2, "out", "move", (0,)),
            (1, "out", "move", (0,)), (0, "out")])

    def test_numbers_change_places(self):
        """Asked for what is given, a name with a number in its own slip and another one in the tape's ahead of it."""
        found = set()
        for program, web, values, number, stops, slips in ended():
            try:
                rows = machine_of(web, 300)
            except TooMany:
                continue
            found |= {row[2][1] for row in rows if row[2][0] == "move"}
        self.assertTrue(any(list(order) != sorted(order) for order in found))
        self.assertTrue(any(order == (0, 2) for order in found))

    def alike(self, web, most):
        """Whether the machine has just the rows of the stands by trees; told is how many."""
        stands = machine(web, most)
        if stands is None:
            with self.assertRaises(TooMany) as caught:
                machine_of(web, most)
            self.assertEqual(caught.exception.most, most)
            return None
        rows = machine_of(web, most)
        self.assertEqual(len(rows), len(stands))
        self.assertTrue(all_plain(rows))
        # From the door on, row by row beside stand by stand.
        known, due = {}, [(0, bare(DOOR))]
        while due:
            at, stand = due.pop()
            if stand in known:
                self.assertEqual(known[stand], at)
                continue
            known[stand] = at
            (word, *notes), order, nexts = stands[stand]
            self.assertEqual(rows[at][:2], stand[:2])
            deed = rows[at][2]
            self.assertEqual(deed[0], word)
            ways = deed[len(deed) - len(nexts):]
            self.assertEqual(deed[1:len(deed) - len(nexts)], (order,) if word == "move" else tuple(notes))
            due += list(zip(ways, nexts))
        self.assertEqual(sorted(known.values()), list(range(len(rows))))
        return len(rows)

    def test_a_row_for_each_stand(self):
        counts = [self.alike(laid(program), 120) for program, values in tried()]
        self.assertGreater(sum(count is not None for count in counts), 500)
        self.assertGreater(sum(count is None for count in counts), 50)
        self.assertGreater(sum(count is not None and count > 60 for count in counts), 20)

    def test_just_most_stands_and_one_more(self):
        for program, web, values, number, stops, slips in ended()[::5]:
            count = self.alike(web, 300)
            if count is None:
                continue
            self.assertEqual(machine_of(web, count), machine_of(web, 300))
            for most in (count - 1, count // 2, 1):
                with self.assertRaises(TooMany) as caught:
                    machine_of(web, most)
                self.assertEqual(caught.exception.most, most)

    def test_programs_that_call_themselves_without_end(self):
        for text in ("inputs tell ( rec x num x )", f"inputs n tell ( call {SUM_TO} n )",
                     "inputs n tell ( if n 1 ( rec x num ( + x 1 ) ) )",
                     "inputs tell ( if 1 1 ( rec x num ( + x 1 ) ) )"):
            for most in (1, 30, 100, 300):
                with self.assertRaises(TooMany) as caught:
                    machine_of(web_of(text), most)
                self.assertEqual(caught.exception.most, most)

    def test_a_rec_that_does_not_call_itself(self):
        self.assertEqual(len(machine_of(web_of("inputs tell ( rec x num 5 )"), 4)), 4)
        self.assertEqual(len(machine_of(web_of("inputs tell ( let y ( rec x num x ) 5 )"), 4)), 4)

    def test_without_recs_there_are_finitely_many(self):
        seen = 0
        for program, web, values, number, stops, slips in ended():
            if not any(part[0] == "rec" for part in parts(program[1])):
                self.assertGreater(len(machine_of(web, 20000)), 1)
                seen += 1
        self.assertGreater(seen, 200)

    def test_the_same_for_all_values_and_each_time(self):
        for text, values, number in RUNS[:6]:
            rows = machine_of(web_of(text), 300)
            machine_run(rows, values, 500)
            self.assertEqual(machine_of(web_of(text), 300), rows)


if __name__ == "__main__":
    unittest.main()
