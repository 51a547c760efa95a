"""[5] Terms, the terms right in one, the parts, how deep a term is."""

import unittest

from stillweb.terms import deep, free, is_term, parts, put_in, right_in
from tests.samples import (BIGGEST, EACH_FORM, FUN, KEPT, NUM, ONE, SIGNS, TWO, X, Y, Z, all_plain, chain,
                           many_terms, nest)

NO_NAMES = KEPT + ("", "abcdefghi", "X", "x1", "x ", "a-b", 0, 1, True, None, (), ("x",), X)
NO_KINDS = ("", "x", "nums", 0, 1, True, False, None, (), (NUM,), (NUM, NUM, NUM), (NUM, "x"), (NUM, None))
NO_SIGNS = ("", "/", ">", "==", "+-", "op", " +", "<=", 0, 1, True, None, (), ("+",))
NO_NUMBERS = (-1, -BIGGEST, 10 ** 18, 10 ** 30, True, False, None, "", "0", "7", (), (0,))

# Things that are no terms by themselves, whatever stands around them.
NO_TERMS = (
    (None, True, False, 0, 7, "", "x", "num", "name", (), ("num",), ("name",), ("x",), (0,), (None,), (True,))
    + (("num", 0, 0), ("name", "x", "y"), ("num", "x"), ("name", 0), ("Num", 0), ("number", 0), ("", 0))
    + ((7, 0), (True, 0), (None, 0), ((), 0), (("num",), 0), (("num", 0),), (X, Y), ("inputs", "x"), ("tell", X))
    + tuple(("num", n) for n in NO_NUMBERS)
    + tuple(("name", x) for x in NO_NAMES)
)


def around(thing):
    """Terms of each form, but with the thing in the place of a term."""
    return [
        ("fn", "x", NUM, thing), ("rec", "x", NUM, thing),
        ("call", thing, X), ("call", X, thing), ("let", "x", thing, X), ("let", "x", X, thing),
        ("op", "+", thing, X), ("op", "+", X, thing),
        ("if", thing, X, X), ("if", X, thing, X), ("if", X, X, thing),
    ]


class IsTerm(unittest.TestCase):
    def holds(self, thing):
        self.assertIs(is_term(thing), True, thing)

    def fails(self, thing):
        self.assertIs(is_term(thing), False, thing)

    def test_each_form(self):
        for term, inner in EACH_FORM:
            self.holds(term)
            for outer in around(term):
                self.holds(outer)

    def test_many(self):
        for term in many_terms():
            self.holds(term)

    def test_numbers(self):
        for n in (0, 1, 9, 10, 10 ** 17, BIGGEST):
            self.holds(("num", n))

    def test_signs(self):
        for s in SIGNS:
            self.holds(("op", s, X, Y))
        for s in NO_SIGNS:
            self.fails(("op", s, X, Y))

    def test_names(self):
        for x in ("a", "abcdefgh", "op", "name", "nums", "f"):
            for term in (("name", x), ("fn", x, NUM, X), ("rec", x, NUM, X), ("let", x, X, Y)):
                self.holds(term)
        for x in NO_NAMES:
            for term in (("name", x), ("fn", x, NUM, X), ("rec", x, NUM, X), ("let", x, X, Y)):
                self.fails(term)

    def test_kinds(self):
        for kind in (NUM, FUN, (FUN, NUM), (NUM, FUN)):
            self.holds(("fn", "x", kind, X))
            self.holds(("rec", "x", kind, X))
        for kind in NO_KINDS:
            self.fails(("fn", "x", kind, X))
            self.fails(("rec", "x", kind, X))

    def test_no_terms(self):
        for thing in NO_TERMS:
            self.fails(thing)

    def test_no_terms_within(self):
        for thing in NO_TERMS:
            for outer in around(thing):
                self.fails(outer)

    def test_no_terms_deep_within(self):
        for thing in NO_TERMS:
            for outer in around(thing):
                for outmost in around(outer):
                    self.fails(outmost)

    def test_another_word(self):
        for term, inner in EACH_FORM:
            for word in ("", "x", "Fn", "function", "fn ", "+", None, 0, True, ("fn",), term[0] + "s"):
                self.fails((word,) + term[1:])

    def test_the_word_of_another_form(self):
        fits = {("fn", "rec"), ("rec", "fn")}
        for term, inner in EACH_FORM:
            for other, others in EACH_FORM:
                if term[0] == other[0] or (term[0], other[0]) in fits:
                    continue
                self.fails((other[0],) + term[1:])

    def test_a_thing_more_or_fewer(self):
        for term, inner in EACH_FORM:
            for at in range(len(term)):
                self.fails(term[:at] + term[at + 1:])
            for more in (X, "x", 0, None, ()):
                for at in range(len(term) + 1):
                    self.fails(term[:at] + (more,) + term[at:])

    def test_things_out_of_order(self):
        for thing in ((1, "num"), ("x", "name"), ("fn", NUM, "x", X), ("fn", "x", X, NUM), ("op", X, "+", Y),
                      ("let", X, "x", Y), ("rec", X, NUM, "x")):
            self.fails(thing)

    def test_thirty_deep(self):
        right, wrong = X, ("num", True)
        for depth in range(28):
            right, wrong = ("call", right, X), ("call", wrong, X)
            self.holds(right)
            self.fails(wrong)


class RightIn(unittest.TestCase):
    def test_each_form(self):
        for term, inner in EACH_FORM:
            told = right_in(term)
            self.assertIs(type(told), list)
            self.assertEqual(told, inner)

    def test_like_terms_are_all_told(self):
        self.assertEqual(right_in(("if", X, X, X)), [X, X, X])
        self.assertEqual(right_in(("call", ONE, ONE)), [ONE, ONE])

    def test_only_what_is_right_in_it(self):
        inner = ("op", "-", X, Y)
        self.assertEqual(right_in(("let", "x", inner, inner)), [inner, inner])

    def test_each_list_is_the_askers_own(self):
        for term, inner in EACH_FORM:
            told = right_in(term)
            other = right_in(term)
            told.append(TWO)
            told[0] = ONE
            self.assertEqual(other, inner)
            self.assertEqual(right_in(term), inner)


class Parts(unittest.TestCase):
    def test_each_form(self):
        for term, inner in EACH_FORM:
            told = parts(term)
            self.assertIs(type(told), list)
            self.assertEqual(told, [term] + inner)

    def test_reading_order(self):
        product = ("op", "*", X, ONE)
        call = ("call", ("fn", "y", NUM, Y), TWO)
        let = ("let", "z", product, Z)
        term = ("if", product, call, let)
        self.assertEqual(parts(term), [
            term, product, X, ONE, call, ("fn", "y", NUM, Y), Y, TWO, let, product, X, ONE, Z])

    def test_all_of_a_part_ahead_of_the_next(self):
        for term in many_terms():
            told = [term]
            for inner in right_in(term):
                told += parts(inner)
            self.assertEqual(parts(term), told)

    def test_two_hundred_parts(self):
        self.assertEqual(len(parts(nest(199))), 200)
        self.assertEqual(len(parts(chain(100))), 201)
        self.assertEqual(parts(chain(100))[1::2], [("num", at) for at in reversed(range(100))])

    def test_each_list_is_the_askers_own(self):
        for term, inner in EACH_FORM:
            told = parts(term)
            other = parts(term)
            told.clear()
            self.assertEqual(other, [term] + inner)
            self.assertEqual(parts(term), [term] + inner)


class Deep(unittest.TestCase):
    def test_each_form(self):
        for term, inner in EACH_FORM:
            told = deep(term)
            self.assertIs(type(told), int)
            self.assertEqual(told, 1 if inner else 0)

    def test_one_deeper_than_the_deepest(self):
        for term in many_terms():
            inner = right_in(term)
            self.assertEqual(deep(term), 1 + max(map(deep, inner)) if inner else 0)

    def test_in_each_place(self):
        for depth in range(5):
            for term in around(chain(depth)):
                self.assertEqual(deep(term), depth + 1)

    def test_kinds_do_not_count(self):
        self.assertEqual(deep(("fn", "x", ((FUN, NUM), NUM), X)), 1)

    def test_two_hundred_parts(self):
        self.assertEqual(deep(nest(199)), 199)
        self.assertEqual(deep(chain(100)), 100)


class Told(unittest.TestCase):
    """[1] What is told is plain, and what was asked ahead changes nothing."""

    def test_plain(self):
        for term in many_terms():
            for told in (right_in(term), parts(term), free(term)):
                self.assertIs(type(told), list)
                self.assertTrue(all_plain(tuple(told)))
            self.assertTrue(all_plain(put_in(term, "x", ONE)))

    def test_the_same_in_any_order(self):
        terms = many_terms()[::11]

        def ask(term):
            return is_term(term), right_in(term), parts(term), deep(term), free(term), put_in(term, "x", TWO)

        there = [ask(term) for term in terms]
        back = [ask(term) for term in reversed(terms)]
        self.assertEqual(there, back[::-1])


if __name__ == "__main__":
    unittest.main()
