"""[33] Machines run: the walk's stops one by one, by rows without any function."""

import unittest

from stillweb.errors import TooLong, TooMany
from stillweb.machine import machine_run
from stillweb.plain import plain
from stillweb.stands import machine_of, numbers_of
from stillweb.walk import walked
from stillweb.webs import laid
from tests.moves import web_of
from tests.runs import RUNS
from tests.samples import BIGGEST
from tests.walks import ended

OPS = (("+", lambda n, m: (n + m) % 10 ** 18), ("-", lambda n, m: max(0, n - m)),
       ("*", lambda n, m: n * m % 10 ** 18), ("<", lambda n, m: int(n < m)), ("=", lambda n, m: int(n == m)))


def machines():
    """The walks of which there is a machine, with it."""
    found = []
    for program, web, values, number, stops, slips in ended():
        try:
            found.append((program, web, values, number, stops, slips, machine_of(web, 300)))
        except TooMany:
            continue
    return found


def rows_of_numbers(rows, values, road):
    """The numbers at each row gone through, by the words of 32."""
    numbers, found = [], [[]]
    for at in road[:-1]:
        word, *notes = rows[at][2]
        if word == "put":
            numbers = [notes[0]] + numbers
        elif word == "input":
            numbers = [values[notes[0]]] + numbers
        elif word == "op":
            numbers = [dict(OPS)[notes[0]](numbers[1], numbers[0])] + numbers[2:]
        elif word == "move":
            numbers = [numbers[place] for place in notes[0]]
        found.append(numbers)
    return found


class MachineRun(unittest.TestCase):
    def test_by_hand(self):
        self.assertEqual(machine_run(machine_of(web_of("inputs tell 7"), 9), (), 1), (7, [0, 1]))
        self.assertEqual(machine_run(machine_of(web_of("inputs a b tell b"), 9), [5, 6], 1), (6, [0, 1]))
        rows = ((0, "in", ("move", (), 3)), (0, "out", ("end",)), (2, "in", ("put", 2, 5)), (1, "in", ("input", 0, 4)),
                (1, "out", ("move", (0,), 2)), (2, "out", ("op", "-", 1)))
        self.assertEqual(machine_run(rows, (9,), 100), (7, [0, 3, 4, 2, 5, 1]))

    def test_signs(self):
        for sign, due in OPS:
            rows = machine_of(web_of(f"inputs a b tell ( {sign} a b )"), 300)
            for n in (0, 1, 2, 7, BIGGEST):
                for m in (0, 1, 2, 7, BIGGEST):
                    self.assertEqual(machine_run(rows, (n, m), 500)[0], due(n, m))

    def test_both_ways_of_an_if(self):
        rows = machine_of(web_of("inputs n tell ( - 50 ( if n ( + n 8 ) 9 ) )"), 300)
        for value, due in ((0, 41), (1, 41), (2, 40), (30, 12), (BIGGEST, 43)):
            self.assertEqual(machine_run(rows, (value,), 500)[0], due)

    def test_numbers(self):
        for text, values, number in RUNS:
            try:
                rows = machine_of(web_of(text), 300)
            except TooMany:
                continue
            given = list(values)
            told = machine_run(rows, given, 2000)
            self.assertEqual(told[0], number, text)
            self.assertEqual(given, list(values))
            self.assertEqual(machine_run(rows, values, 2000), told)
            self.assertEqual([type(part) for part in told], [int, list])

    def test_the_walks_stops_one_by_one(self):
        seen = 0
        for program, web, values, number, stops, slips, rows in machines():
            told, road = machine_run(rows, values, 600)
            self.assertEqual(told, number)
            self.assertEqual(road[0], 0)
            self.assertEqual([rows[at][:2] for at in road], [stop[:2] for stop in stops])
            self.assertEqual(rows[road[-1]], (0, "out", ("end",)))
            numbers = rows_of_numbers(rows, values, road)
            self.assertEqual(numbers, [numbers_of(stop, slips) for stop in stops])
            seen += 1
        self.assertGreater(seen, 500)

    def test_the_same_rows_for_all_values(self):
        for program, web, values, number, stops, slips, rows in machines()[::3]:
            for other in ((0, 0, 0, 0), (1, 1, 1, 1), (0, 2, 1, 3), (BIGGEST, 1, 0, 2)):
                given = other[:len(values)]
                try:
                    due = walked(web, given, 2000)
                except TooLong:
                    continue
                told, road = machine_run(rows, given, 2000)
                self.assertEqual((told, len(road)), (due[0], len(due[1])))
                self.assertEqual([rows[at][:2] for at in road], [stop[:2] for stop in due[1]])

    def test_just_most_moves_and_one_more(self):
        for program, web, values, number, stops, slips, rows in machines()[::3]:
            moves = len(stops) - 1
            self.assertEqual(len(machine_run(rows, values, moves)[1]), len(stops))
            for most in (moves - 1, moves // 2):
                if 1 <= most < moves:
                    with self.assertRaises(TooLong) as caught:
                        machine_run(rows, values, most)
                    self.assertEqual(caught.exception.most, most)

    def test_without_an_end(self):
        """A machine in which a row leads back to an earlier one."""
        rows = ((0, "in", ("put", 1, 1)), (1, "out", ("move", (0,), 2)), (2, "in", ("move", (0,), 1)))
        for most in (1, 500, 2000):
            self.assertRaises(TooLong, machine_run, rows, (), most)

    def test_against_the_plain_run(self):
        for program, web, values, number, stops, slips, rows in machines()[::2]:
            try:
                self.assertEqual(machine_run(rows, values, 600)[0], plain(program, values, 600)[0])
            except TooMany:
                continue

    def test_what_is_told_is_the_askers_own(self):
        rows = machine_of(laid((("n",), ("op", "+", ("name", "n"), ("num", 1)))), 100)
        number, road = machine_run(rows, (4,), 100)
        kept = list(road)
        road.clear()
        self.assertEqual(machine_run(rows, (4,), 100), (number, kept))


if __name__ == "__main__":
    unittest.main()
