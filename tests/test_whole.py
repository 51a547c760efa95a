"""[3, 23, 28] What is promised over the whole, over many programs by a rule that hangs on no chance."""

import unittest

from stillweb.crossing import crossed, part_web
from stillweb.errors import TooLong, TooMany
from stillweb.gates import on
from stillweb.heads import stepped
from stillweb.leaps import leapt
from stillweb.linking import linked
from stillweb.looker import kinds_of
from stillweb.machine import machine_run
from stillweb.plain import plain, with_values
from stillweb.stands import machine_of
from stillweb.terms import parts
from stillweb.walk import walked
from stillweb.webs import is_web, laid
from tests.moves import ON, slip
from tests.test_linking import pairs
from tests.walks import all_let_by, ended, tried


class WalkAndPlainRun(unittest.TestCase):
    def test_programs_are_many_and_let_by(self):
        self.assertTrue(all_let_by())
        self.assertGreater(len(ended()), 600)
        self.assertGreater(sum(len(row[4]) > 60 for row in ended()), 80)

    def test_the_walk_tells_the_plain_runs_number_by_more_than_twice_its_steps(self):
        told = 0
        for program, web, values, number, stops, slips in ended():
            try:
                run = plain(program, values, 600)
            except TooMany:
                continue
            self.assertEqual(number, run[0])
            self.assertLess(2 * run[1], len(stops) - 1)
            told += 1
        self.assertGreater(told, 600)

    def test_where_the_plain_run_ends_the_walk_does(self):
        both = 0
        for program, values in tried()[::2]:
            try:
                number, steps = plain(program, values, 30)
            except (TooLong, TooMany):
                continue
            self.assertEqual(walked(laid(program), values, 20000)[0], number)
            both += 1
        self.assertGreater(both, 250)

    def test_one_web_for_all_values(self):
        for program, web, values, number, stops, slips in ended()[::3]:
            for other in ((0, 0, 0, 0), (1, 1, 1, 1), (2, 0, 1, 3)):
                given = other[:len(program[0])]
                try:
                    due = plain(program, given, 60)[0]
                    self.assertEqual(walked(web, given, 3000)[0], due)
                except (TooLong, TooMany):
                    continue
            self.assertEqual(web, laid(program))

    def test_behind_each_plain_step_by_two_moves_fewer_at_least(self):
        steps = 0
        for program, web, values, number, stops, slips in ended()[::2]:
            term, moves = with_values(program, values), len(stops) - 1
            while (term := stepped(term)) is not None and len(parts(term)) <= 200:
                then = walked(laid(((), term)), (), 600)
                self.assertEqual(then[0], number)
                self.assertLessEqual(len(then[1]) - 1, moves - 2)
                moves = len(then[1]) - 1
                steps += 1
        self.assertGreater(steps, 500)

    def test_no_stop_comes_twice(self):
        for program, web, values, number, stops, slips in ended():
            self.assertEqual(len(set(stops)), len(stops))


class OneNumber(unittest.TestCase):
    def numbers(self, program, values, seen):
        """The numbers told by all that can be asked of a program."""
        web, found = laid(program), []
        asked = (("plain", lambda: plain(program, values, 150)), ("walk", lambda: walked(web, values, 800)),
                 ("leaps", lambda: leapt(web, values, 800)),
                 ("machine", lambda: machine_run(machine_of(web, 300), values, 800)))
        for word, told in asked:
            try:
                found.append(told()[0])
                seen[word] = seen.get(word, 0) + 1
            except (TooLong, TooMany):
                continue
        return found

    def test_plain_run_walk_leaps_and_machine(self):
        seen = {}
        for program, values in tried():
            self.assertLessEqual(len(set(self.numbers(program, values, seen))), 1)
        self.assertGreater(min(seen.values()), 550)

    def test_linking_too(self):
        seen = {}
        for one, other, values, call, walk in pairs():
            number, crossings = linked(laid(one), laid(other), values, 800)
            program = (one[0], ("call", one[1], other[1]))
            self.assertEqual(set(self.numbers(program, values, seen)), {number})
        self.assertGreater(min(seen.values()), 300)

    def test_a_machine_goes_the_walk_of_each_program_that_has_one(self):
        for program, values in tried()[::3]:
            web = laid(program)
            try:
                rows = machine_of(web, 300)
            except TooMany:
                continue
            number, stops, slips = walked(web, values, 5000)
            told, road = machine_run(rows, values, 5000)
            self.assertEqual([rows[at][:2] for at in road], [stop[:2] for stop in stops])


class Tapes(unittest.TestCase):
    def fits(self, tape, kind):
        for entry in tape:
            self.assertIsInstance(kind, tuple)
            kind = kind[1] if entry == ON else kind[0]
        self.assertEqual(kind, "num")

    def test_at_each_stop(self):
        """[23] Tapes fit the kinds, logs the levels, and asking and telling go by the count of slips."""
        for program, web, values, number, stops, slips in ended():
            kinds = kinds_of(program)
            for wire, way, value, tape, log, roll in stops:
                self.fits(tape, kinds[wire])
                self.assertEqual(len(log), web[wire][4])
                many = sum(entry[0] == "slip" for entry in tape)
                self.assertEqual(many + sum(entry == ON for entry in tape), len(tape))
                asks = many % 2 == 0 if way == "in" else many % 2 == 1
                self.assertEqual(value is None, asks)

    def test_on_the_way_of_walks_without_an_end(self):
        for program, values in tried()[::5]:
            web, kinds = laid(program), kinds_of(program)
            stop, slips = (0, "in", None, (), (), ()), ()
            for move in range(120):
                wire, way, value, tape, log, roll = stop
                if (wire, way) == (0, "out"):
                    break
                self.fits(tape, kinds[wire])
                self.assertEqual(len(log), web[wire][4])
                stop, slips = on(web, values, stop, slips)


class Ways:
    """A part's own way, gone beside the walk: what the walk has, told as the part's own web has it."""

    def __init__(self, web, w, walk_slips):
        self.w = w
        self.last = w + len(part_web(web, w)) - 1
        self.walk_slips = walk_slips
        self.table = {}
        self.walks = []
        for gate, entries in walk_slips:
            self.walks.append(self.known(gate, [self.walks[e[1]] if e[0] == "slip" else e for e in entries]))

    def known(self, gate, entries):
        """A number for what is read by gate and entries."""
        return self.table.setdefault((gate, tuple(entries)), len(self.table))

    def read_walks(self, entries):
        return [self.walks[e[1]] if e[0] == "slip" else e for e in entries]

    def read_own(self, entries, own):
        """Entries of the part's own web, with its slips: far ones are the walk's, by their numbers there."""
        numbers = []

        def row(entries):
            found = []
            for e in entries:
                found.append(numbers[e[1]] if e[0] == "slip" else self.walks[e[1]] if e[0] == "far" else e)
            return found

        for gate, kept in own:
            numbers.append(self.known(gate + self.w, row(kept)))
        return row(entries)

    def tape_within(self, tape, own):
        """The walk's tape as the part's own web has it."""
        numbers = {self.read_own([slip(k)], own)[0]: k for k in range(len(own))}
        found = []
        for e in tape:
            if e == ON:
                found.append(e)
            elif self.w <= self.walk_slips[e[1]][0] <= self.last:
                found.append(slip(numbers[self.walks[e[1]]]))
            else:
                found.append(("far", e[1]))
        return tuple(found)


class Parts(unittest.TestCase):
    def goes_its_way(self, web, values, w, stops, slips):
        """[28] for one part of a walk; told is how many crossings there were, and how many far entries."""
        part, ways, own = part_web(web, w), Ways(web, w, slips), ()
        found, far_ones, at = 0, 0, 0
        while at < len(stops):
            if stops[at][:2] != (w, "in"):
                at += 1
                continue
            begin = stops[at]
            tape = ways.tape_within(begin[3], own)
            end = next(k for k in range(at, len(stops)) if stops[k][:2] == (w, "out"))
            stop, there = (0, "in", begin[2], tape, (), ()), own
            for k in range(at, end + 1):
                self.same(web, ways, stops[k], begin, stop, there)
                if k < end:
                    stop, there = on(part, values, stop, there)
            self.assertEqual(crossed(part, values, begin[2], tape, own, 600), (stop[2], stop[3], there, end - at))
            far_ones += sum(entry[0] == "far" for entry in tape)
            own, found, at = there, found + 1, end + 1
        return found, far_ones

    def same(self, web, ways, stop, begin, inner, own):
        """Whether a stop of the walk is that of the part's own way."""
        wire, way, value, tape, log, roll = stop
        self.assertEqual((wire - ways.w, way, value), inner[:3])
        self.assertEqual(ways.read_walks(tape), ways.read_own(inner[3], own))
        behind = begin[4]
        self.assertEqual(log[len(log) - len(behind):], behind)
        self.assertEqual(ways.read_walks(log[:len(log) - len(behind)]), ways.read_own(inner[4], own))
        self.assertEqual(roll, begin[5] + inner[5])

    def test_a_part_goes_its_way_wherever_it_stands(self):
        all_found, all_far = 0, 0
        for program, web, values, number, stops, slips in ended():
            if len(stops) > 300:
                continue
            for w in range(1, len(web)):
                if part_web(web, w) is not None and len(part_web(web, w)) > 1:
                    self.assertTrue(is_web(part_web(web, w), len(values)))
                    found, far_ones = self.goes_its_way(web, values, w, stops, slips)
                    all_found += found
                    all_far += far_ones
        self.assertGreater(all_found, 2000)
        self.assertGreater(all_far, 200)


if __name__ == "__main__":
    unittest.main()
