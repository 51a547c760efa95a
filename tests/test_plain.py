"""[12] The plain run."""

import unittest

from stillweb.errors import TooLong, TooMany, WebError
from stillweb.heads import come_to, stepped
from stillweb.looker import look
from stillweb.plain import plain
from stillweb.reader import read
from stillweb.terms import parts, put_in
from tests.drawn import drawn_program, drawn_values
from tests.runs import FIB, RUNS
from tests.samples import NUM, ONE, X, Y

LOOP = ("rec", "x", NUM, X)
GROWING = ("rec", "x", NUM, ("op", "+", ONE, X))


class OutOfSteps(Exception):
    pass


class Meaning:
    """What a program comes to, told without putting in: by Python's own functions, asked when needed."""

    def __init__(self, most):
        self.left = most

    def of(self, term, bound):
        self.left -= 1
        if self.left < 0:
            raise OutOfSteps
        word = term[0]
        if word == "num":
            return term[1]
        if word == "name":
            return bound[term[1]]()
        if word == "fn":
            return lambda given: self.of(term[3], {**bound, term[1]: given})
        if word == "call":
            return self.of(term[1], bound)(lambda: self.of(term[2], bound))
        if word == "let":
            return self.of(term[3], {**bound, term[1]: lambda: self.of(term[2], bound)})
        if word == "rec":
            return self.of(term[3], {**bound, term[1]: lambda: self.of(term, bound)})
        if word == "op":
            n = self.of(term[2], bound)
            return come_to(term[1], n, self.of(term[3], bound))
        return self.of(term[2] if self.of(term[1], bound) != 0 else term[3], bound)


def meaning(program, values, most=300):
    names, term = program
    return Meaning(most).of(term, {name: (lambda value=value: value) for name, value in zip(names, values)})


def sum_of(many, leaf):
    """The sum of so many leaves: 2 * many - 1 parts, where a leaf is one."""
    term = leaf
    for at in range(many - 1):
        term = ("op", "+", leaf, term)
    return term


def grown(wraps):
    """A program whose term has 199 + wraps parts behind its first step."""
    term = sum_of(10, X)
    for at in range(wraps):
        term = ("rec", "y", NUM, term)
    return (), ("let", "x", sum_of(10, ONE), term)


class Runs(unittest.TestCase):
    def comes_to(self, program, values, most, number, steps):
        told = plain(program, values, most)
        self.assertEqual(told, (number, steps), program)
        self.assertIs(type(told), tuple)
        self.assertEqual([type(thing) for thing in told], [int, int])

    def refused(self, program, values, most, refusal, thing):
        with self.assertRaises(refusal, msg=program) as held:
            plain(program, values, most)
        self.assertIs(type(held.exception), refusal)
        self.assertEqual(held.exception.most, thing)


class Plain(Runs):
    def test_numbers(self):
        for text, values, number in RUNS:
            program = read(text)
            self.assertEqual(look(program), NUM)
            self.assertEqual(plain(program, values, 2000)[0], number, text)
            self.assertEqual(meaning(program, values), number)

    def test_steps(self):
        for text, values, number, steps in (
            ("inputs tell 7", (), 7, 0),
            ("inputs n tell n", (5,), 5, 0),
            ("inputs tell ( + 1 2 )", (), 3, 1),
            ("inputs a b tell ( + ( + a b ) ( + a b ) )", (1, 2), 6, 3),
            ("inputs n tell ( if n ( + 1 1 ) 9 )", (1,), 2, 2),
            ("inputs n tell ( if n ( + 1 1 ) 9 )", (0,), 9, 1),
            ("inputs tell ( call ( fn x num 4 ) ( + 1 2 ) )", (), 4, 1),
            ("inputs tell ( call ( fn x num ( * x x ) ) ( + 1 2 ) )", (), 9, 4),
            ("inputs tell ( let x ( + 1 2 ) ( * x x ) )", (), 9, 4),
            ("inputs tell ( let x ( rec y num y ) 3 )", (), 3, 1),
            ("inputs tell ( rec x num 3 )", (), 3, 1),
            ("inputs tell ( call ( rec f < num num > ( fn x num x ) ) 3 )", (), 3, 2),
            # Each time round: the rec, the call, the if's c, the if; then its ops.
            (f"inputs n tell ( call {FIB} n )", (0,), 0, 4),
        ):
            self.comes_to(read(text), values, 2000, number, steps)

    def test_no_inputs_and_four(self):
        self.comes_to(((), ("op", "*", ("num", 6), ("num", 7))), (), 10, 42, 1)
        program = read("inputs a b c d tell ( + a ( * 10 ( + b ( * 10 ( + c ( * 10 d ) ) ) ) ) )")
        self.comes_to(program, (1, 2, 3, 4), 10, 4321, 6)
        self.comes_to(program, (4, 3, 2, 1), 6, 1234, 6)

    def test_inputs_that_are_hidden_or_not_used(self):
        self.comes_to(read("inputs x tell ( call ( fn x num x ) ( + x 1 ) )"), (4,), 10, 5, 2)
        self.comes_to(read("inputs x y tell ( let x ( + x y ) ( + x y ) )"), (4, 10), 10, 24, 3)
        self.comes_to(read("inputs x y tell y"), (4, 10), 10, 10, 0)
        self.comes_to(read("inputs x tell ( rec x num 5 )"), (4,), 10, 5, 1)

    def test_numbers_at_the_bounds(self):
        biggest = 10 ** 18 - 1
        self.comes_to(read("inputs a b tell ( + a b )"), (biggest, 1), 1, 0, 1)
        self.comes_to(read("inputs a b tell ( * a b )"), (biggest, biggest), 1, 1, 1)
        self.comes_to(read("inputs a b tell ( - a b )"), (0, biggest), 1, 0, 1)
        self.comes_to(read("inputs a tell a"), (biggest,), 1, biggest, 0)

    def test_values_as_a_list_and_as_a_tuple_and_not_changed(self):
        program = read("inputs a b tell ( - a b )")
        values = [9, 4]
        self.comes_to(program, values, 5, 5, 1)
        self.assertEqual(values, [9, 4])
        self.comes_to(program, (9, 4), 5, 5, 1)
        values[0] = 4
        self.comes_to(program, values, 5, 0, 1)
        self.assertEqual(program, read("inputs a b tell ( - a b )"))

    def test_a_rec_that_ends(self):
        program = read(f"inputs n tell ( call {FIB} n )")
        self.assertEqual([plain(program, (n,), 2000)[0] for n in range(6)], [0, 1, 1, 2, 3, 5])

    def test_many_as_they_mean(self):
        told = 0
        for seed in range(1500):
            program = drawn_program(seed, 4)
            values = drawn_values(seed, program)
            try:
                due = meaning(program, values)
            except OutOfSteps:
                continue
            try:
                number, steps = plain(program, values, 500)
            except WebError:
                continue
            told += 1
            self.assertEqual(number, due, program)
        self.assertGreater(told, 1000)

    def test_steps_one_by_one(self):
        for seed in range(300):
            program = drawn_program(seed, 3)
            values = drawn_values(seed, program)
            term = program[1]
            for name, value in zip(program[0], values):
                term = put_in(term, name, ("num", value))
            steps = 0
            while stepped(term) is not None and steps < 60:
                term = stepped(term)
                steps += 1
                if len(parts(term)) > 200:
                    break
            if len(parts(term)) > 200:
                self.refused(program, values, 60, TooMany, 200)
            elif term[0] != "num":
                self.refused(program, values, 60, TooLong, 60)
            else:
                self.comes_to(program, values, 60, term[1], steps)


class Refused(Runs):
    def test_refusals(self):
        for refusal in (TooLong, TooMany):
            self.assertTrue(issubclass(refusal, WebError))

    def test_just_most_steps_and_one_more(self):
        for text, values, number in RUNS:
            program = read(text)
            steps = plain(program, values, 2000)[1]
            for most in (steps, steps + 1):
                if most > 0:
                    self.comes_to(program, values, most, number, steps)
            if steps > 1:
                self.refused(program, values, steps - 1, TooLong, steps - 1)
                self.refused(program, values, 1, TooLong, 1)

    def test_a_rec_that_does_not_end(self):
        for most in (1, 2, 17, 2000):
            self.refused(((), LOOP), (), most, TooLong, most)
            self.refused((("y",), ("op", "+", Y, LOOP)), (4,), most, TooLong, most)
        calling = read("inputs tell ( call ( rec f < num num > ( fn x num ( call f x ) ) ) 1 )")
        self.refused(calling, (), 999, TooLong, 999)

    def test_just_two_hundred_parts_behind_a_step_and_one_more(self):
        self.assertEqual(len(parts(stepped(grown(1)[1]))), 200)
        self.comes_to(grown(0), (), 2000, 100, 100)
        self.comes_to(grown(1), (), 2000, 100, 101)
        self.refused(grown(2), (), 2000, TooMany, 200)
        self.refused(grown(3), (), 2000, TooMany, 200)

    def test_at_the_first_such_step(self):
        # Its term has 4 + 2 * k parts behind k steps.
        self.refused(((), GROWING), (), 98, TooLong, 98)
        self.refused(((), GROWING), (), 99, TooMany, 200)
        self.refused(((), GROWING), (), 2000, TooMany, 200)

    def test_whichever_is_due_first(self):
        self.refused(grown(2), (), 1, TooMany, 200)
        self.refused(grown(1), (), 1, TooLong, 1)
        later = ((), ("if", ("op", "<", ONE, ONE), ONE, grown(2)[1]))
        self.refused(later, (), 1, TooLong, 1)
        self.refused(later, (), 2, TooLong, 2)
        self.refused(later, (), 3, TooMany, 200)

    def test_far_more_than_two_hundred_parts(self):
        wide = ((), ("let", "x", sum_of(12, ONE), ("let", "y", sum_of(9, X), sum_of(9, Y))))
        self.refused(wide, (), 2000, TooMany, 200)

    def test_parts_that_are_never_asked_for_count(self):
        kept = ((), ("let", "x", sum_of(10, ONE), ("if", ("num", 0), sum_of(10, X), ONE)))
        self.refused(kept, (), 2000, TooMany, 200)
        self.comes_to(((), ("let", "x", sum_of(10, ONE), ("if", ("num", 0), sum_of(9, X), ONE))), (), 2000, 1, 2)

    def test_nothing_hangs_on_what_was_asked_ahead(self):
        program = read(f"inputs n tell ( call {FIB} n )")
        told = plain(program, (4,), 2000)
        self.refused(program, (4,), 3, TooLong, 3)
        self.refused(grown(2), (), 5, TooMany, 200)
        self.assertEqual(plain(program, (4,), 2000), told)


if __name__ == "__main__":
    unittest.main()
