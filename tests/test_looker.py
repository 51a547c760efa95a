"""[9] Looking: the kinds of all parts, or the first refusal that is due."""

import unittest

from stillweb.errors import NoKind, NoName, Twice, WebError
from stillweb.looker import kinds_of, look
from stillweb.reader import read
from stillweb.terms import parts
from tests.samples import FUN, NUM, ONE, TWO, X, Y, Z, all_plain, chain, many_terms, nest

F = ("name", "f")
INC = ("fn", "x", NUM, ("op", "+", X, ONE))
TWICE = ("fn", "f", FUN, ("fn", "x", NUM, ("call", F, ("call", F, X))))


class Refusal(Exception):
    pass


def model(program):
    """The kinds, or the refusal as a tuple, told another way: down by calls, counting on the way."""
    names, term = program
    kinds = []

    def go(part, bound):
        at = len(kinds)
        kinds.append(None)
        word = part[0]
        if word == "num":
            kind = NUM
        elif word == "name":
            if part[1] not in bound:
                raise Refusal(NoName, at)
            kind = bound[part[1]]
        elif word == "fn":
            kind = (part[2], go(part[3], {**bound, part[1]: part[2]}))
        elif word == "rec":
            kind = go(part[3], {**bound, part[1]: part[2]})
            if kind != part[2]:
                raise Refusal(NoKind, at)
        elif word == "let":
            kind = go(part[3], {**bound, part[1]: go(part[2], bound)})
        elif word == "call":
            f, a = go(part[1], bound), go(part[2], bound)
            if f == NUM or f[0] != a:
                raise Refusal(NoKind, at)
            kind = f[1]
        else:
            inner = [go(one, bound) for one in (part[2:] if word == "op" else part[1:])]
            if set(inner) != {NUM}:
                raise Refusal(NoKind, at)
            kind = NUM
        kinds[at] = kind
        return kind

    for at, name in enumerate(names):
        if name in names[:at]:
            return Twice, name
    try:
        go(term, {name: NUM for name in names})
    except Refusal as why:
        return why.args
    return kinds


class Looking(unittest.TestCase):
    def kind(self, program, kind):
        told = look(program)
        self.assertEqual(told, kind, program)
        self.assertTrue(all_plain(told))
        self.assertEqual(kinds_of(program)[0], kind)

    def kinds(self, program, kinds):
        told = kinds_of(program)
        self.assertIs(type(told), list)
        self.assertEqual(told, kinds)
        self.assertTrue(all_plain(tuple(told)))
        self.kind(program, kinds[0])

    def refused(self, program, refusal, thing):
        for ask in (look, kinds_of):
            with self.assertRaises(refusal, msg=program) as held:
                ask(program)
            self.assertIs(type(held.exception), refusal)
            self.assertEqual(vars(held.exception), {"name" if refusal is Twice else "at": thing}, program)


class Kinds(Looking):
    def test_each_form(self):
        self.kinds(((), ONE), [NUM])
        self.kinds((("x",), X), [NUM])
        self.kinds(((), INC), [FUN, NUM, NUM, NUM])
        self.kinds(((), ("call", INC, TWO)), [NUM, FUN, NUM, NUM, NUM, NUM])
        self.kinds(((), ("let", "y", INC, Y)), [FUN, FUN, NUM, NUM, NUM, FUN])
        self.kinds(((), ("rec", "x", NUM, X)), [NUM, NUM])
        self.kinds(((), ("rec", "x", FUN, X)), [FUN, FUN])
        self.kinds(((), ("if", ONE, TWO, ("num", 0))), [NUM] * 4)
        for s in "+-*<=":
            self.kinds((("x", "y"), ("op", s, X, Y)), [NUM, NUM, NUM])

    def test_functions_of_functions(self):
        self.kind(((), TWICE), (FUN, FUN))
        self.kinds(((), TWICE), [(FUN, FUN), FUN, NUM, FUN, NUM, FUN, NUM])
        self.kind(((), ("call", TWICE, INC)), FUN)
        self.kind(((), ("call", ("call", TWICE, INC), ONE)), NUM)
        self.kind(((), ("fn", "x", (FUN, FUN), X)), ((FUN, FUN), (FUN, FUN)))
        self.kind(((), ("fn", "x", NUM, ("fn", "y", FUN, ("fn", "z", NUM, Y)))), (NUM, (FUN, (NUM, FUN))))

    def test_a_rec_and_its_name_within(self):
        term = ("rec", "f", FUN, ("fn", "x", NUM, ("if", X, ("call", F, ("op", "-", X, ONE)), ONE)))
        self.kinds(((), term), [FUN, FUN, NUM, NUM, NUM, FUN, NUM, NUM, NUM, NUM])
        self.kind(((), ("rec", "f", (FUN, NUM), ("fn", "x", FUN, ("call", X, ("call", F, X))))), (FUN, NUM))

    def test_the_kind_of_a_lets_name_is_that_of_its_a(self):
        self.kind(((), ("let", "x", TWICE, X)), (FUN, FUN))
        self.kind(((), ("let", "x", ONE, ("let", "y", INC, ("call", Y, X)))), NUM)
        self.kinds(((), ("let", "x", ("let", "y", INC, Y), ("call", X, ONE))),
                   [NUM, FUN, FUN, NUM, NUM, NUM, FUN, NUM, FUN, NUM])

    def test_names_that_hide_one_another(self):
        for program, kind in (
            ((("x",), ("fn", "x", FUN, X)), (FUN, FUN)),
            ((("x",), ("rec", "x", FUN, X)), FUN),
            ((("x",), ("let", "x", INC, X)), FUN),
            (((), ("fn", "x", FUN, ("fn", "x", NUM, X))), (FUN, FUN)),
            (((), ("fn", "x", NUM, ("let", "x", INC, X))), (NUM, FUN)),
            (((), ("fn", "x", NUM, ("rec", "x", FUN, X))), (NUM, FUN)),
            (((), ("let", "x", INC, ("fn", "x", NUM, X))), FUN),
            (((), ("let", "x", INC, ("let", "x", ONE, X))), NUM),
            ((("x",), ("call", ("fn", "x", FUN, ("call", X, ONE)), ("fn", "y", NUM, X))), NUM),
            ((("x",), ("let", "y", ("fn", "x", FUN, ONE), X)), NUM),
        ):
            self.kind(program, kind)

    def test_a_lets_name_in_its_own_a(self):
        self.kind((("x",), ("let", "x", X, X)), NUM)
        self.kind((("x",), ("let", "x", ("fn", "y", FUN, X), X)), (FUN, NUM))
        self.kind(((), ("fn", "x", FUN, ("let", "x", ("call", X, ONE), X))), (FUN, NUM))
        self.refused(((), ("let", "x", X, X)), NoName, 1)
        self.refused(((), ("let", "x", ("op", "+", ONE, X), ONE)), NoName, 3)

    def test_inputs_are_numbers(self):
        self.kinds((("x", "y"), ("op", "+", Y, X)), [NUM, NUM, NUM])
        self.kind((("a", "b", "c", "d"), ("name", "d")), NUM)
        self.refused((("x",), ("call", X, ONE)), NoKind, 0)

    def test_read_from_a_text(self):
        fib = "( rec f < num num > ( fn x num ( if ( < x 2 ) x ( + ( call f ( - x 1 ) ) ( call f ( - x 2 ) ) ) ) ) )"
        self.kind(read(f"inputs n tell ( call {fib} n )"), NUM)
        self.kind(read(f"inputs tell {fib}"), FUN)


class Refused(Looking):
    def test_refusals(self):
        for refusal in (Twice, NoName, NoKind):
            self.assertTrue(issubclass(refusal, WebError))

    def test_twice(self):
        for names, name in (
            (("x", "x"), "x"), (("x", "y", "x"), "x"), (("x", "y", "y", "x"), "y"), (("x", "y", "x", "y"), "x"),
            (("x", "x", "x"), "x"), (("a", "b", "c", "c"), "c"),
        ):
            self.refused((names, ONE), Twice, name)

    def test_twice_ahead_of_all_others(self):
        self.refused((("x", "x"), Y), Twice, "x")
        self.refused((("y", "x", "x"), ("call", ONE, ONE)), Twice, "x")
        self.refused((("x", "x"), ("op", "+", Z, INC)), Twice, "x")

    def test_no_name(self):
        for names, term, at in (
            ((), X, 0), (("y",), X, 0), ((), ("fn", "x", NUM, Y), 1), ((), ("op", "+", ONE, X), 2),
            ((), ("call", INC, X), 5), ((), ("if", ONE, ONE, X), 3), ((), ("call", ("fn", "x", NUM, X), X), 3),
            ((), ("op", "+", ("let", "x", ONE, X), X), 4), ((), ("op", "+", ("rec", "x", NUM, X), X), 3),
            ((), ("let", "y", ONE, ("let", "x", TWO, ("if", X, Y, Z))), 7),
        ):
            self.refused((names, term), NoName, at)

    def test_no_kind_of_a_call(self):
        for names, term, at in (
            ((), ("call", ONE, ONE), 0), ((), ("call", INC, INC), 0), (("x",), ("call", X, X), 0),
            ((), ("call", TWICE, ONE), 0), ((), ("call", TWICE, TWICE), 0), ((), ("call", ("call", INC, ONE), ONE), 0),
            ((), ("op", "+", ONE, ("call", INC, INC)), 2), ((), ("fn", "x", FUN, ("call", X, X)), 1),
            ((), ("call", ("op", "+", ONE, ONE), ONE), 0), ((), ("call", ("fn", "x", (NUM, FUN), ONE), INC), 0),
        ):
            self.refused((names, term), NoKind, at)

    def test_no_kind_of_a_rec(self):
        self.refused(((), ("rec", "x", NUM, INC)), NoKind, 0)
        self.refused(((), ("rec", "x", FUN, ONE)), NoKind, 0)
        self.refused(((), ("rec", "x", FUN, ("fn", "y", FUN, ("call", Y, ONE)))), NoKind, 0)
        self.refused(((), ("rec", "x", FUN, ("fn", "y", NUM, X))), NoKind, 0)
        self.refused(((), ("if", ONE, ONE, ("rec", "x", FUN, ONE))), NoKind, 3)

    def test_no_kind_of_an_op_or_an_if_with_a_function_in_each_place(self):
        for s in "+-*<=":
            self.refused(((), ("op", s, INC, ONE)), NoKind, 0)
            self.refused(((), ("op", s, ONE, INC)), NoKind, 0)
            self.refused(((), ("op", s, INC, INC)), NoKind, 0)
        self.refused(((), ("if", INC, ONE, ONE)), NoKind, 0)
        self.refused(((), ("if", ONE, INC, ONE)), NoKind, 0)
        self.refused(((), ("if", ONE, ONE, INC)), NoKind, 0)
        self.refused(((), ("if", ONE, INC, INC)), NoKind, 0)

    def test_the_number_of_the_part_deep_within(self):
        wrong, unknown = ("call", ONE, ONE), Z
        for level in range(1, 13):
            wrong, unknown = ("op", "+", ("op", "*", ONE, TWO), wrong), ("fn", "x", NUM, unknown)
            self.refused(((), wrong), NoKind, 4 * level)
            self.refused(((), unknown), NoName, level)

    def test_of_two_the_one_that_is_due_first(self):
        bad = ("call", ONE, ONE)
        for term, refusal, at in (
            # the left one
            (("op", "+", X, bad), NoName, 1), (("op", "+", bad, X), NoKind, 1), (("op", "+", X, Y), NoName, 1),
            (("if", ONE, bad, X), NoKind, 2), (("if", bad, X, ONE), NoKind, 1), (("let", "x", bad, Y), NoKind, 1),
            (("let", "x", Y, bad), NoName, 1), (("call", X, bad), NoName, 1), (("call", bad, X), NoKind, 1),
            # the inner one ahead of the outer one
            (("call", ONE, X), NoName, 2), (("call", ("op", "+", INC, ONE), X), NoKind, 1),
            (("rec", "f", FUN, ("op", "+", INC, ONE)), NoKind, 1), (("op", "+", INC, X), NoName, 5),
            (("if", INC, ONE, bad), NoKind, 6), (("call", INC, bad), NoKind, 5), (("call", bad, ONE), NoKind, 1),
            # deep on the left ahead of shallow on the right
            (("op", "+", ("op", "+", ONE, ("op", "+", ONE, X)), Y), NoName, 5),
            (("op", "+", ("op", "+", INC, ONE), X), NoKind, 1),
            (("op", "+", ("fn", "x", NUM, ("fn", "y", NUM, Z)), bad), NoName, 3),
        ):
            self.refused(((), term), refusal, at)


class Many(Looking):
    def test_as_the_model(self):
        seen = {}
        for term in many_terms():
            for names in ((), ("x",), ("y", "x")):
                due = model((names, term))
                if type(due) is list:
                    self.kinds((names, term), due)
                    self.assertEqual(len(due), len(parts(term)))
                else:
                    self.refused((names, term), *due)
                key = due[0] if type(due) is tuple else list
                seen[key] = seen.get(key, 0) + 1
        self.assertEqual(set(seen), {list, NoName, NoKind})
        self.assertGreater(min(seen.values()), 100)

    def test_deep(self):
        self.kind((("y",), chain(60)), NUM)
        self.refused((("z",), chain(60)), NoName, 120)
        kinds = kinds_of((("y",), nest(199)))
        self.assertEqual(kinds[-3:], [(NUM, FUN), FUN, NUM])
        self.refused(((), nest(199)), NoName, 199)

    def test_each_list_is_the_askers_own(self):
        program = ((), ("call", INC, ONE))
        told = kinds_of(program)
        other = kinds_of(program)
        kept = list(told)
        told[0] = "changed"
        told.append("more")
        self.assertEqual(other, kept)
        self.assertEqual(kinds_of(program), kept)
        self.assertEqual(look(program), NUM)

    def test_nothing_hangs_on_what_was_asked_ahead(self):
        programs = [((), term) for term in many_terms()[::9]]
        there = [model(program) for program in programs]
        for program, due in list(zip(programs, there))[::-1]:
            if type(due) is list:
                self.assertEqual(kinds_of(program), due)
            else:
                self.refused(program, *due)

    def test_what_is_handed_in_stays(self):
        program = (("x", "y"), ("let", "x", ("op", "+", X, Y), X))
        kinds_of(program)
        x, y = ("name", "x"), ("name", "y")
        self.assertEqual(program, (("x", "y"), ("let", "x", ("op", "+", x, y), x)))


if __name__ == "__main__":
    unittest.main()
