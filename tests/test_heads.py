"""[10, 11] Heads and steps."""

import unittest

from stillweb.heads import come_to, head, stepped
from stillweb.looker import look
from stillweb.terms import free, is_term, parts, right_in
from tests.drawn import KINDS, drawn_program
from tests.samples import BIGGEST, FUN, NUM, ONE, SIGNS, TWO, X, Y, all_plain

NOUGHT = ("num", 0)
THREE = ("num", 3)
F = ("name", "f")
INC = ("fn", "x", NUM, ("op", "+", X, ONE))
SUM = ("op", "+", ONE, TWO)
LOOP = ("rec", "x", NUM, X)
FUN_LOOP = ("rec", "f", FUN, F)

# Each a term that is its own head, with what comes in its place.
HEADS = (
    (("call", INC, TWO), ("op", "+", TWO, ONE)),
    (("call", ("fn", "x", NUM, ONE), LOOP), ONE),
    (("call", INC, SUM), ("op", "+", SUM, ONE)),
    (("let", "x", SUM, ("op", "*", X, X)), ("op", "*", SUM, SUM)),
    (("let", "x", ONE, X), ONE),
    (LOOP, LOOP),
    (("rec", "x", NUM, ("op", "+", ONE, X)), ("op", "+", ONE, ("rec", "x", NUM, ("op", "+", ONE, X)))),
    (("rec", "x", NUM, TWO), TWO),
    (SUM, THREE),
    (("op", "-", THREE, TWO), ONE),
    (("op", "*", TWO, THREE), ("num", 6)),
    (("op", "<", ONE, TWO), ONE),
    (("op", "=", ONE, TWO), NOUGHT),
    (("if", ONE, TWO, THREE), TWO),
    (("if", NOUGHT, TWO, THREE), THREE),
    (("if", ("num", BIGGEST), SUM, LOOP), SUM),
    (("if", NOUGHT, LOOP, SUM), SUM),
)
# Each a term of kind (num, num) that is its own head, with what comes in its place.
FUN_HEADS = (
    (("let", "f", INC, F), INC),
    (FUN_LOOP, FUN_LOOP),
    (("rec", "f", FUN, INC), INC),
    (("call", ("fn", "y", NUM, ("fn", "x", NUM, Y)), SUM), ("fn", "x", NUM, SUM)),
)


def around(thing):
    """Each way in which a term of kind num has the head of another one, with the number that is ahead."""
    return [
        (("op", "+", thing, LOOP), 1),
        (("op", "-", thing, ONE), 1),
        (("op", "*", TWO, thing), 2),
        (("op", "=", NOUGHT, thing), 2),
        (("if", thing, LOOP, SUM), 1),
    ]


def head_model(term, at=0):
    """The head's number, down by calls, by the words of the document."""
    word, inner = term[0], right_in(term)
    numbers = [part[0] == "num" for part in inner]
    if word in ("num", "fn"):
        return None
    if word == "call" and inner[0][0] != "fn":
        return head_model(inner[0], at + 1)
    if word == "op" and not numbers[0]:
        return head_model(inner[0], at + 1)
    if word == "op" and not numbers[1]:
        return head_model(inner[1], at + 1 + len(parts(inner[0])))
    if word == "if" and not numbers[0]:
        return head_model(inner[0], at + 1)
    return at


class Heads(unittest.TestCase):
    def at(self, term, number):
        told = head(term)
        self.assertEqual(told, number, term)
        self.assertIs(type(told), type(number))

    def then(self, term, after):
        told = stepped(term)
        self.assertEqual(told, after, term)
        self.assertTrue(all_plain(told))


class AtTheTop(Heads):
    def test_numbers_and_functions_have_none(self):
        for term in (NOUGHT, ONE, ("num", BIGGEST), INC, ("fn", "x", NUM, LOOP), ("fn", "x", FUN, ("call", X, SUM))):
            self.at(term, None)
            self.then(term, None)

    def test_each_way(self):
        for term, after in HEADS + FUN_HEADS:
            self.at(term, 0)
            self.then(term, after)

    def test_a_step_is_none_only_where_there_is_no_head(self):
        for seed in range(300):
            term = drawn_program(seed)[1]
            if not free(term):
                self.assertEqual(head(term) is None, stepped(term) is None)


class Within(Heads):
    def test_of_a_call_that_of_f(self):
        for term, after in FUN_HEADS:
            self.at(("call", term, SUM), 1)
            self.then(("call", term, SUM), ("call", after, SUM))
        curried = ("call", ("call", ("fn", "x", NUM, INC), LOOP), ONE)
        self.at(curried, 1)
        self.then(curried, ("call", INC, ONE))

    def test_of_an_op_that_of_a(self):
        self.at(("op", "+", SUM, SUM), 1)
        self.then(("op", "+", SUM, SUM), ("op", "+", THREE, SUM))

    def test_of_an_op_that_of_b_where_a_is_a_number(self):
        self.at(("op", "+", ONE, SUM), 2)
        self.then(("op", "+", ONE, SUM), ("op", "+", ONE, THREE))

    def test_of_an_if_that_of_c(self):
        self.at(("if", SUM, LOOP, LOOP), 1)
        self.then(("if", SUM, LOOP, LOOP), ("if", THREE, LOOP, LOOP))

    def test_a_let_and_a_rec_themselves_whatever_is_in_them(self):
        self.at(("let", "x", SUM, SUM), 0)
        self.then(("let", "x", SUM, SUM), SUM)
        self.at(("rec", "x", NUM, SUM), 0)
        self.then(("rec", "x", NUM, SUM), SUM)
        self.at(("call", INC, LOOP), 0)

    def test_each_way_deep_within(self):
        for term, after in HEADS:
            for outer, ahead in around(term):
                self.at(outer, ahead)
                if ahead == 2:
                    self.then(outer, outer[:3] + (after,))
                elif outer[0] == "op":
                    self.then(outer, outer[:2] + (after,) + outer[3:])
                else:
                    self.then(outer, outer[:1] + (after,) + outer[2:])
                for outmost, more in around(outer):
                    self.at(outmost, ahead + more)

    def test_far_down(self):
        term, after, at = ("call", ("let", "f", INC, F), ONE), ("call", INC, ONE), 1
        for level in range(40):
            for place in ("a", "b", "c"):
                if place == "a":
                    term, after, at = ("op", "+", term, LOOP), ("op", "+", after, LOOP), at + 1
                elif place == "b":
                    term, after, at = ("op", "-", TWO, term), ("op", "-", TWO, after), at + 2
                elif level < 3:
                    term, after, at = ("if", term, SUM, LOOP), ("if", after, SUM, LOOP), at + 1
                self.at(term, at)
                self.then(term, after)

    def test_many(self):
        for seed in range(600):
            for kind in KINDS[1::2]:
                term = drawn_program(seed, 3, kind)[1]
                if free(term):
                    continue
                self.assertEqual(look(((), term)), kind)
                for step in range(12):
                    if term is None or len(parts(term)) > 200:
                        break
                    self.at(term, head_model(term))
                    term = stepped(term)


class PuttingIn(Heads):
    def test_names_that_hide_one_another(self):
        hiding = ("fn", "x", NUM, ("call", ("fn", "x", NUM, X), X))
        self.then(("call", hiding, TWO), ("call", ("fn", "x", NUM, X), TWO))
        self.then(("let", "x", TWO, ("let", "x", X, X)), ("let", "x", TWO, X))
        self.then(("let", "x", TWO, ("let", "x", ("op", "+", X, ONE), ("op", "*", X, X))),
                  ("let", "x", ("op", "+", TWO, ONE), ("op", "*", X, X)))
        self.then(("call", ("fn", "x", NUM, ("rec", "x", NUM, X)), TWO), ("rec", "x", NUM, X))
        self.then(("rec", "f", FUN, ("fn", "f", NUM, F)), ("fn", "f", NUM, F))

    def test_names_of_what_is_put_in_stay_its_own(self):
        given = ("fn", "y", NUM, ("op", "+", Y, ONE))
        self.then(("call", ("fn", "f", FUN, ("fn", "y", NUM, ("call", F, Y))), given),
                  ("fn", "y", NUM, ("call", given, Y)))

    def test_a_rec_puts_in_itself_each_time(self):
        rec = ("rec", "f", FUN, ("fn", "x", NUM, ("call", F, ("call", F, X))))
        self.then(rec, ("fn", "x", NUM, ("call", rec, ("call", rec, X))))
        self.then(("call", rec, ONE), ("call", ("fn", "x", NUM, ("call", rec, ("call", rec, X))), ONE))

    def test_what_is_given_is_not_stepped_first(self):
        self.then(("call", ("fn", "x", NUM, ("op", "+", X, X)), SUM), ("op", "+", SUM, SUM))
        self.then(("let", "x", LOOP, ("if", X, X, ONE)), ("if", LOOP, LOOP, ONE))

    def test_steps_keep_the_kind(self):
        for seed in range(400):
            for kind in KINDS:
                term = drawn_program(seed, 3, kind)[1]
                for step in range(8):
                    if term is None or free(term) or len(parts(term)) > 200:
                        break
                    self.assertTrue(is_term(term))
                    self.assertEqual(look(((), term)), kind)
                    term = stepped(term)

    def test_what_is_handed_in_stays(self):
        term = ("call", ("fn", "x", NUM, ("op", "+", X, X)), SUM)
        stepped(term)
        x = ("name", "x")
        self.assertEqual(term, (
            "call", ("fn", "x", "num", ("op", "+", x, x)), ("op", "+", ("num", 1), ("num", 2))))


class Deep(Heads):
    def test_nearly_two_hundred_parts_deep(self):
        term, at = SUM, 0
        for level in range(98):
            term, at = ("op", "+", term, ONE), at + 1
        self.assertEqual(len(parts(term)), 199)
        self.at(term, at)
        told = stepped(term)
        self.assertEqual(len(parts(told)), 197)
        self.at(told, 97)

    def test_on_the_right(self):
        term = SUM
        for level in range(98):
            term = ("op", "-", ONE, term)
        self.at(term, 196)
        self.assertEqual(parts(stepped(term))[-1], THREE)

    def test_calls(self):
        kind = FUN
        for level in range(96):
            kind = (NUM, kind)
        term = ("rec", "f", kind, F)
        for level in range(98):
            term = ("call", term, ONE)
        self.assertEqual(len(parts(term)), 198)
        self.at(term, 98)
        self.then(term, term)

    def test_functions_within_one_another(self):
        term = X
        for level in range(197):
            term = ("fn", "y", NUM, term)
        call = ("call", ("fn", "x", NUM, term), TWO)
        self.assertEqual(len(parts(call)), 201)
        self.at(call, 0)
        self.assertEqual(parts(stepped(call))[-1], TWO)
        let = ("let", "x", INC, term)
        self.assertEqual(len(parts(stepped(let))), 201)

    def test_recs_within_one_another(self):
        term = X
        for level in range(198):
            term = ("rec", "y", NUM, term)
        rec = ("rec", "x", NUM, term)
        self.assertEqual(parts(stepped(rec))[198:], parts(rec))
        self.at(rec, 0)


class ComeTo(unittest.TestCase):
    def test_signs(self):
        for s, n, m, told in (
            ("+", 0, 0, 0), ("+", 2, 3, 5), ("+", BIGGEST, 0, BIGGEST), ("+", BIGGEST, 1, 0), ("+", BIGGEST, 2, 1),
            ("+", BIGGEST, BIGGEST, BIGGEST - 1), ("+", BIGGEST - 1, 1, BIGGEST), ("+", 5 * 10 ** 17, 5 * 10 ** 17, 0),
            ("*", 0, 7, 0), ("*", 2, 3, 6), ("*", BIGGEST, 1, BIGGEST), ("*", BIGGEST, 2, BIGGEST - 1),
            ("*", 10 ** 9, 10 ** 9, 0), ("*", 10 ** 9, 10 ** 9 - 1, 10 ** 18 - 10 ** 9), ("*", BIGGEST, BIGGEST, 1),
            ("*", 10 ** 9 + 1, 10 ** 9 + 1, 2 * 10 ** 9 + 1), ("*", 10 ** 17, 10, 0),
            ("-", 5, 3, 2), ("-", 3, 5, 0), ("-", 3, 3, 0), ("-", 0, 1, 0), ("-", 0, BIGGEST, 0),
            ("-", BIGGEST, 0, BIGGEST), ("-", BIGGEST, 1, BIGGEST - 1), ("-", 0, 0, 0), ("-", 4, 3, 1), ("-", 3, 4, 0),
            ("<", 1, 2, 1), ("<", 2, 1, 0), ("<", 2, 2, 0), ("<", 0, BIGGEST, 1), ("<", BIGGEST, 0, 0), ("<", 0, 0, 0),
            ("=", 1, 2, 0), ("=", 2, 1, 0), ("=", 2, 2, 1), ("=", 0, 0, 1), ("=", BIGGEST, BIGGEST, 1), ("=", 0, 1, 0),
        ):
            self.assertEqual(come_to(s, n, m), told, (n, s, m))

    def test_whole_numbers_and_no_truths(self):
        numbers = (0, 1, 2, 10 ** 9, BIGGEST)
        for s in SIGNS:
            for n in numbers:
                for m in numbers:
                    told = come_to(s, n, m)
                    self.assertIs(type(told), int)
                    self.assertTrue(0 <= told <= BIGGEST)
                    self.assertEqual(stepped(("op", s, ("num", n), ("num", m))), ("num", told))

    def test_beyond(self):
        self.assertEqual(stepped(("op", "+", ("num", BIGGEST), ONE)), NOUGHT)
        self.assertEqual(stepped(("op", "*", ("num", 10 ** 9), ("num", 10 ** 9))), NOUGHT)
        self.assertEqual(stepped(("op", "-", ONE, TWO)), NOUGHT)


if __name__ == "__main__":
    unittest.main()
