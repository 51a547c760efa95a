"""[22] Walks looked at: True of just the walk and its slips, False of all else."""

import unittest

from stillweb.holds import walk_holds
from stillweb.walk import walked
from tests.drawn import Draw
from tests.moves import LETS, ON, RECS, SUMS, SUMS_VALUES, far, num, slip, web_of
from tests.runs import FIB, RUNS, SUM_TO
from tests.samples import BIGGEST
from tests.test_moves import drawn_slips, drawn_stop
from tests.walks import DOOR, each_move, ended

# For each field of a stop, things that may stand there.
WIRES = (0, 1, 2)
WAYS = ("in", "out")
VALUES = (None, 0, 1, 7, BIGGEST)
TAPES = ((), (ON,), (ON, ON), (far(0),), (far(BIGGEST), ON))
LOGS = ((), (num(0),), (num(3),), (far(2),), (num(3), far(0)))
ROLLS = ((), ((1,),), ((1, 2),), ((0,), (3, 3)))
FIELDS = (WIRES, WAYS, VALUES, TAPES, LOGS, ROLLS)


def some_walks():
    """A few walks of each sort, by their webs: (web, values, stops, slips)."""
    short = [row for row in ended() if len(row[4]) <= 60]
    rows = short[:14] + short[14::40]
    return [(web, values, list(stops), slips) for program, web, values, number, stops, slips in rows]


def others_of(stop, many):
    """The stop with one field otherwise, in many ways, with slips of so many."""
    found = []
    for at, things in enumerate(FIELDS):
        entries = [(slip(k),) for k in range(min(many, 2))] if at in (3, 4) else []
        for thing in list(things) + entries:
            found.append(stop[:at] + (thing,) + stop[at + 1:])
    for at in (3, 4, 5):
        found.append(stop[:at] + (stop[at] + stop[at],) + stop[at + 1:])
        found.append(stop[:at] + (stop[at][1:],) + stop[at + 1:])
        found.append(stop[:at] + (stop[at][::-1],) + stop[at + 1:])
    return [other for other in found if other != stop]


class Holds(unittest.TestCase):
    def holds(self, web, values, stops, slips):
        self.assertIs(walk_holds(web, values, stops, slips), True)

    def fails(self, web, values, stops, slips):
        self.assertIs(walk_holds(web, values, stops, slips), False, (web, stops, slips))

    def test_each_walk(self):
        for program, web, values, number, stops, slips in ended():
            self.holds(web, values, list(stops), slips)
            self.holds(web, list(values), list(stops), slips)

    def test_no_stops_and_one(self):
        for web, values in ((SUMS, SUMS_VALUES), (LETS, ()), (RECS, (2,)), (web_of("inputs tell 5"), ())):
            self.fails(web, values, [], ())
            self.fails(web, values, [], ((0, ()),))
            self.fails(web, values, [DOOR], ())
            self.fails(web, values, [(0, "out", 5, (), (), ())], ())

    def test_a_stop_left_out_or_twice(self):
        for web, values, stops, slips in some_walks():
            for at in range(len(stops)):
                self.fails(web, values, stops[:at] + stops[at + 1:], slips)
                self.fails(web, values, stops[:at] + stops[at:at + 1] + stops[at:], slips)

    def test_two_stops_exchanged(self):
        for web, values, stops, slips in some_walks():
            for one in range(len(stops)):
                for other in range(one):
                    mixed = list(stops)
                    mixed[one], mixed[other] = mixed[other], mixed[one]
                    self.fails(web, values, mixed, slips)

    def test_one_field_otherwise(self):
        for web, values, stops, slips in some_walks():
            for at, stop in enumerate(stops):
                for other in others_of(stop, len(slips)):
                    self.fails(web, values, stops[:at] + [other] + stops[at + 1:], slips)

    def test_the_last_number_otherwise(self):
        for web, values, stops, slips in some_walks():
            wire, way, number, tape, log, roll = stops[-1]
            self.fails(web, values, stops[:-1] + [(wire, way, number + 1, tape, log, roll)], slips)

    def test_slips_more_or_fewer(self):
        for web, values, stops, slips in some_walks():
            for more in ((0, ()), (0, (num(1),)), (len(web) - 1, (far(4), num(2)))):
                self.fails(web, values, stops, slips + (more,))
                self.fails(web, values, stops, (more,) + slips)
            for at in range(len(slips)):
                self.fails(web, values, stops, slips[:at])
                self.fails(web, values, stops, slips[:at] + slips[at + 1:])
                self.fails(web, values, stops, slips + (slips[at],))

    def test_slips_otherwise(self):
        for web, values, stops, slips in some_walks():
            for at, (gate, entries) in enumerate(slips):
                others = [(other, entries) for other in range(len(web)) if other != gate]
                others += [(gate, entries + (num(0),)), (gate, (far(1),) + entries), (gate, entries[:-1])]
                others += [(gate, entries[:k] + (num(98765),) + entries[k + 1:]) for k in range(len(entries))]
                for other in others:
                    if other != (gate, entries):
                        self.fails(web, values, stops, slips[:at] + (other,) + slips[at + 1:])

    def test_slips_in_another_order(self):
        tried = 0
        for web, values, stops, slips in some_walks():
            for at in range(len(slips) - 1):
                if slip(at) in slips[at + 1][1]:
                    continue
                # The same walk by other numbers of the slips: read by gate and entries all is alike.
                numbers = {at: at + 1, at + 1: at}

                def renumbered(entries):
                    return tuple(slip(numbers.get(e[1], e[1])) if e[0] == "slip" else e for e in entries)

                order = slips[:at] + (slips[at + 1], slips[at]) + slips[at + 2:]
                there = tuple((gate, renumbered(entries)) for gate, entries in order)
                moved = [s[:3] + (renumbered(s[3]), renumbered(s[4]), s[5]) for s in stops]
                self.fails(web, values, moved, there)
                self.fails(web, values, stops, there)
                self.fails(web, values, stops, order)
                tried += 1
        self.assertGreater(tried, 5)

    def test_cut_short(self):
        for web, values, stops, slips in some_walks():
            for cut in range(1, len(stops)):
                self.fails(web, values, stops[:cut], slips)
                self.fails(web, values, stops[cut:], slips)
                # With just the slips that were written up to there.
                self.fails(web, values, stops[:cut], each_move(web, values, most=cut - 1)[1])
            self.fails(web, values, stops + [DOOR], slips)
            self.fails(web, values, stops + stops, slips)
            self.fails(web, values, stops[::-1], slips)

    def test_of_another_web_or_other_values(self):
        walks = some_walks()
        for web, values, stops, slips in walks:
            for other, others, stops_there, slips_there in walks:
                if (other, others) != (web, values):
                    due = (stops, slips) == (stops_there, slips_there)
                    self.assertIs(walk_holds(other, others, stops, slips), due)
        web = web_of("inputs n tell ( + n 1 )")
        number, stops, slips = walked(web, (4,), 100)
        self.holds(web, (4,), stops, slips)
        self.fails(web, (5,), stops, slips)

    def test_wires_that_the_web_has_not(self):
        number, stops, slips = walked(SUMS, SUMS_VALUES, 200)
        one = web_of("inputs a b tell b")
        self.fails(one, SUMS_VALUES, stops, slips)
        self.fails(one, SUMS_VALUES, [DOOR, (9, "in", None, (slip(7),), (), ())], ())

    def test_walks_that_do_not_come_out(self):
        web = web_of("inputs tell ( rec x num x )")
        stops, slips = each_move(web, (), most=40)
        self.fails(web, (), stops, slips)
        web = web_of("inputs tell ( call 5 6 )")
        stops, slips = each_move(web, ())
        self.fails(web, (), stops, slips)
        self.fails(web_of("inputs tell ( fn x num x )"), (), [DOOR], ())

    def test_any_stops_and_slips(self):
        for web, values in ((SUMS, SUMS_VALUES), (LETS, ()), (RECS, (2,))):
            draw = Draw(7 * len(web))
            for turn in range(200):
                slips = drawn_slips(draw, web)
                stops = [drawn_stop(draw, web, slips) for at in range(draw.below(6))]
                self.fails(web, values, stops, slips)
                self.fails(web, values, [DOOR] + stops, slips)

    def test_from_another_stop_than_the_doors(self):
        """All moves are right and the end is one, but the beginning isn't the door's."""
        web = web_of("inputs tell ( rec x num 5 )")
        for first, slips in (((1, "in", None, (), (slip(0),), ()), ((0, ()),)),
                             ((1, "out", 5, (), (slip(0),), ()), ((0, ()),)),
                             ((0, "out", 5, (), (), ()), ())):
            stops, then = each_move(web, (), first, slips)
            self.assertEqual(stops[-1], (0, "out", 5, (), (), ()))
            self.fails(web, (), stops, then)
        self.fails(web, (), each_move(web, (), (0, "in", None, (), (), ((1,),)))[0], ((0, ()),))

    def test_long_walks(self):
        for text, value in ((f"inputs n tell ( call {SUM_TO} n )", 70), (f"inputs n tell ( call {FIB} n )", 8)):
            web = web_of(text)
            number, stops, slips = walked(web, (value,), 10 ** 5)
            self.assertGreater(len(stops), 3000)
            self.holds(web, (value,), stops, slips)
            self.fails(web, (value,), stops[:-1], slips)
            self.fails(web, (value,), stops[:2500] + stops[2501:], slips)
            self.fails(web, (value,), stops, slips[:-1])

    def test_nothing_is_changed_or_kept(self):
        for text, values, number in RUNS:
            web = web_of(text)
            number, stops, slips = walked(web, values, 2000)
            kept, given = list(stops), list(values)
            self.holds(web, given, stops, slips)
            self.assertEqual((stops, given), (kept, list(values)))
            self.fails(web, given, stops[1:], slips)
            self.holds(web, given, stops, slips)


if __name__ == "__main__":
    unittest.main()
