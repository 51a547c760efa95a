"""[6] Free names, and putting in."""

import unittest

from stillweb.terms import free, is_term, parts, put_in, right_in
from tests.samples import EACH_FORM, FUN, NUM, ONE, TWO, X, Y, Z, chain, many_terms, nest

CLOSED = ("fn", "y", NUM, Y)

# Each with its free names, and with what it becomes when CLOSED is put in for x.
BINDINGS = (
    # standing nowhere
    (ONE, [], ONE),
    (Y, ["y"], Y),
    (("op", "+", Y, ONE), ["y"], ("op", "+", Y, ONE)),
    # free
    (X, ["x"], CLOSED),
    (("call", X, X), ["x"], ("call", CLOSED, CLOSED)),
    (("op", "<", X, Y), ["x", "y"], ("op", "<", CLOSED, Y)),
    (("if", X, Y, X), ["x", "y"], ("if", CLOSED, Y, CLOSED)),
    (("fn", "y", NUM, X), ["x"], ("fn", "y", NUM, CLOSED)),
    (("let", "y", X, X), ["x"], ("let", "y", CLOSED, CLOSED)),
    (("rec", "y", NUM, X), ["x"], ("rec", "y", NUM, CLOSED)),
    # bound
    (("fn", "x", NUM, X), [], ("fn", "x", NUM, X)),
    (("rec", "x", FUN, X), [], ("rec", "x", FUN, X)),
    (("let", "x", ONE, X), [], ("let", "x", ONE, X)),
    (("fn", "x", NUM, ("fn", "y", NUM, X)), [], ("fn", "x", NUM, ("fn", "y", NUM, X))),
    (("fn", "x", NUM, ("call", X, Y)), ["y"], ("fn", "x", NUM, ("call", X, Y))),
    # free in the a of the let that binds it in its b
    (("let", "x", X, X), ["x"], ("let", "x", CLOSED, X)),
    (("let", "x", X, ONE), ["x"], ("let", "x", CLOSED, ONE)),
    (("let", "x", ("fn", "x", NUM, X), X), [], ("let", "x", ("fn", "x", NUM, X), X)),
    (("let", "x", ("call", X, Y), ("call", X, Y)), ["x", "y"], ("let", "x", ("call", CLOSED, Y), ("call", X, Y))),
    # bound anew within
    (("fn", "x", NUM, ("let", "x", X, X)), [], ("fn", "x", NUM, ("let", "x", X, X))),
    (("fn", "y", NUM, ("call", X, ("rec", "x", NUM, X))), ["x"],
     ("fn", "y", NUM, ("call", CLOSED, ("rec", "x", NUM, X)))),
    (("let", "x", ("let", "x", X, X), ("fn", "x", NUM, X)), ["x"],
     ("let", "x", ("let", "x", CLOSED, X), ("fn", "x", NUM, X))),
    # free in one part and bound in another
    (("call", ("fn", "x", NUM, X), X), ["x"], ("call", ("fn", "x", NUM, X), CLOSED)),
    (("call", X, ("fn", "x", NUM, X)), ["x"], ("call", CLOSED, ("fn", "x", NUM, X))),
    (("op", "-", ("rec", "x", NUM, X), X), ["x"], ("op", "-", ("rec", "x", NUM, X), CLOSED)),
    (("if", ("let", "x", ONE, X), X, ("fn", "x", NUM, X)), ["x"],
     ("if", ("let", "x", ONE, X), CLOSED, ("fn", "x", NUM, X))),
)


def free_by_the_words(term, bound=frozenset()):
    """The free names, told another way: as a set, and down by calls."""
    if term[0] == "name":
        return {term[1]} - bound
    inner = right_in(term)
    found = set()
    if term[0] in ("fn", "let", "rec"):
        found |= free_by_the_words(inner.pop(), bound | {term[1]})
    for part in inner:
        found |= free_by_the_words(part, bound)
    return found


class Free(unittest.TestCase):
    def test_bindings(self):
        for term, names, then in BINDINGS:
            told = free(term)
            self.assertIs(type(told), list)
            self.assertEqual(told, names, term)

    def test_sorted_and_each_once(self):
        ab, b, zz = ("name", "ab"), ("name", "b"), ("name", "zz")
        term = ("if", zz, ("call", b, zz), ("op", "+", ab, b))
        self.assertEqual(free(term), ["ab", "b", "zz"])
        other = ("call", ("name", "aaa"), ("if", ("name", "c"), ("name", "a"), ("call", ("name", "aa"), ("name", "b"))))
        self.assertEqual(free(other), ["a", "aa", "aaa", "b", "c"])

    def test_a_binders_own_name_does_not_count(self):
        for term in (("fn", "x", NUM, ONE), ("rec", "x", NUM, ONE), ("let", "x", ONE, TWO)):
            self.assertEqual(free(term), [])

    def test_many(self):
        for term in many_terms():
            self.assertEqual(free(term), sorted(free_by_the_words(term)))

    def test_two_hundred_parts(self):
        self.assertEqual(free(nest(199)), ["y"])
        self.assertEqual(free(("fn", "y", NUM, nest(198))), [])
        self.assertEqual(free(chain(99)), ["y"])

    def test_each_list_is_the_askers_own(self):
        for term, inner in EACH_FORM:
            told = free(term)
            other = free(term)
            kept = list(told)
            told.append("more")
            self.assertEqual(other, kept)
            self.assertEqual(free(term), kept)


class PutIn(unittest.TestCase):
    def test_bindings(self):
        for term, names, then in BINDINGS:
            self.assertEqual(put_in(term, "x", CLOSED), then, term)
            self.assertIs(type(put_in(term, "x", CLOSED)), tuple)

    def test_a_name_that_stands_nowhere(self):
        for term in many_terms():
            self.assertEqual(put_in(term, "z", ONE), term)

    def test_a_name_that_is_not_free(self):
        for term in many_terms():
            for name in ("x", "y"):
                if name not in free(term):
                    self.assertEqual(put_in(term, name, ONE), term)

    def test_the_name_is_free_no_more_and_others_stay(self):
        for term in many_terms():
            then = put_in(term, "x", CLOSED)
            self.assertTrue(is_term(then))
            self.assertEqual(free(then), [name for name in free(term) if name != "x"])

    def test_what_was_bound_stays(self):
        for term in many_terms():
            self.assertEqual(put_in(put_in(term, "x", ONE), "y", TWO), put_in(put_in(term, "y", TWO), "x", ONE))
            self.assertEqual(put_in(term, "x", X), term)

    def test_names_that_binders_bear_stay(self):
        self.assertEqual(put_in(("fn", "x", NUM, ONE), "x", TWO), ("fn", "x", NUM, ONE))
        self.assertEqual(put_in(("let", "x", X, Y), "y", TWO), ("let", "x", X, TWO))

    def test_what_is_put_in_is_not_gone_through(self):
        other = ("rec", "x", NUM, ("op", "+", X, ONE))
        self.assertEqual(put_in(("op", "*", X, Z), "x", other), ("op", "*", other, Z))

    def test_each_free_one_gives_way(self):
        term = ("op", "+", X, X)
        for level in range(4):
            term = ("op", "+", term, term)
        self.assertEqual(parts(put_in(term, "x", ONE)).count(ONE), 32)

    def test_two_hundred_parts(self):
        self.assertEqual(parts(put_in(nest(199), "y", ONE))[-1], ONE)
        self.assertEqual(put_in(nest(199), "x", ONE), nest(199))
        self.assertEqual(len(parts(put_in(nest(199), "y", CLOSED))), 201)
        self.assertEqual(parts(put_in(chain(99), "y", TWO))[-1], TWO)

    def test_what_is_handed_in_stays(self):
        term = ("let", "x", ("call", X, Y), ("call", X, Y))
        put_in(term, "x", CLOSED)
        call = ("call", ("name", "x"), ("name", "y"))
        self.assertEqual(term, ("let", "x", call, call))
        self.assertEqual(CLOSED, ("fn", "y", "num", ("name", "y")))


if __name__ == "__main__":
    unittest.main()
