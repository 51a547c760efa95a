"""[13, 14] The web of a program, and a name's depth."""

import unittest

from stillweb.reader import read
from stillweb.terms import free, parts, right_in
from stillweb.webs import depth_at, laid
from tests.drawn import KINDS, drawn_program
from tests.samples import FUN, NUM, ONE, TWO, X, Y, all_plain, many_terms

BOXED = {("call", 1), ("let", 0), ("rec", 0), ("op", 1), ("if", 1), ("if", 2)}


def model(program):
    """The web, told another way: down by calls."""
    names, term = program
    gates = []

    def go(part, above, level, binders):
        at = len(gates)
        gates.append(None)
        word, note, bound = part[0], None, None
        if word == "name" and part[1] in binders:
            bound = binders[part[1]]
        elif word == "name":
            word, note = "input", names.index(part[1])
        elif word in ("num", "op"):
            note = part[1]
        inside = []
        last = len(right_in(part)) - 1
        for which, inner in enumerate(right_in(part)):
            binds = word in ("fn", "let", "rec") and which == last
            near = {**binders, part[1]: at} if binds else binders
            inside.append(len(gates))
            go(inner, at, level + ((word, which) in BOXED), near)
        gates[at] = (word, note, tuple(inside), above, level, bound)

    go(term, None, 0, {})
    return tuple(gates)


class Laid(unittest.TestCase):
    def web(self, text, *gates):
        told = laid(read(text))
        self.assertEqual(told, gates)
        self.assertTrue(all_plain(told))
        self.assertIs(type(told), tuple)

    def test_num(self):
        self.web("inputs tell 7", ("num", 7, (), None, 0, None))
        self.web("inputs tell 0", ("num", 0, (), None, 0, None))

    def test_inputs(self):
        self.web("inputs n tell n", ("input", 0, (), None, 0, None))
        self.web("inputs a b c d tell d", ("input", 3, (), None, 0, None))
        self.web("inputs a b tell ( + b a )", ("op", "+", (1, 2), None, 0, None), ("input", 1, (), 0, 0, None),
                 ("input", 0, (), 0, 1, None))

    def test_fn_and_name(self):
        self.web("inputs tell ( fn x num x )", ("fn", None, (1,), None, 0, None), ("name", None, (), 0, 0, 0))

    def test_call(self):
        self.web("inputs tell ( call ( fn x num 1 ) 2 )", ("call", None, (1, 3), None, 0, None),
                 ("fn", None, (2,), 0, 0, None), ("num", 1, (), 1, 0, None), ("num", 2, (), 0, 1, None))

    def test_let(self):
        self.web("inputs tell ( let x 1 x )", ("let", None, (1, 2), None, 0, None), ("num", 1, (), 0, 1, None),
                 ("name", None, (), 0, 0, 0))

    def test_rec(self):
        self.web("inputs tell ( rec x num x )", ("rec", None, (1,), None, 0, None), ("name", None, (), 0, 1, 0))

    def test_op(self):
        for s in "+-*<=":
            self.web(f"inputs tell ( {s} 3 4 )", ("op", s, (1, 2), None, 0, None), ("num", 3, (), 0, 0, None),
                     ("num", 4, (), 0, 1, None))

    def test_if(self):
        self.web("inputs tell ( if 1 2 3 )", ("if", None, (1, 2, 3), None, 0, None), ("num", 1, (), 0, 0, None),
                 ("num", 2, (), 0, 1, None), ("num", 3, (), 0, 1, None))

    def test_boxes_within_one_another(self):
        self.web(
            "inputs n tell ( + 1 ( call ( rec f < num num > ( fn x num ( if x ( let y n ( * y y ) ) x ) ) ) 2 ) )",
            ("op", "+", (1, 2), None, 0, None),
            ("num", 1, (), 0, 0, None),
            ("call", None, (3, 13), 0, 1, None),
            ("rec", None, (4,), 2, 1, None),
            ("fn", None, (5,), 3, 2, None),
            ("if", None, (6, 7, 12), 4, 2, None),
            ("name", None, (), 5, 2, 4),
            ("let", None, (8, 9), 5, 3, None),
            ("input", 0, (), 7, 4, None),
            ("op", "*", (10, 11), 7, 3, None),
            ("name", None, (), 9, 3, 7),
            ("name", None, (), 9, 4, 7),
            ("name", None, (), 5, 3, 4),
            ("num", 2, (), 2, 2, None),
        )

    def test_names_that_hide_one_another(self):
        for text, bounds in (
            ("inputs tell ( fn x num ( fn x num x ) )", {2: 1}),
            ("inputs tell ( fn x num ( + x ( let x x x ) ) )", {2: 0, 4: 0, 5: 3}),
            ("inputs tell ( let x 1 ( let x x x ) )", {3: 0, 4: 2}),
            ("inputs tell ( rec x num ( + x ( rec x num x ) ) )", {2: 0, 4: 3}),
            ("inputs tell ( rec x num ( call ( fn x num x ) x ) )", {3: 2, 4: 0}),
            ("inputs tell ( fn x num ( fn y num ( + x y ) ) )", {3: 0, 4: 1}),
        ):
            web = laid(read(text))
            self.assertEqual({at: gate[5] for at, gate in enumerate(web) if gate[0] == "name"}, bounds, text)

    def test_names_that_hide_an_input(self):
        web = laid(read("inputs x y tell ( if x ( fn x num ( + x y ) ) ( let y x ( + x y ) ) )"))
        self.assertEqual([gate[:2] + gate[5:] for gate in web], [
            ("if", None, None), ("input", 0, None), ("fn", None, None), ("op", "+", None), ("name", None, 2),
            ("input", 1, None), ("let", None, None), ("input", 0, None), ("op", "+", None), ("input", 0, None),
            ("name", None, 6)])

    def test_names_and_kinds_are_not_in_a_web(self):
        for one, other in (
            ("inputs a b tell ( + a b )", "inputs b a tell ( + b a )"),
            ("inputs tell ( fn x num x )", "inputs tell ( fn yy < num num > yy )"),
            ("inputs tell ( rec x num x )", "inputs tell ( rec y < num num > y )"),
            ("inputs x tell ( let x x x )", "inputs n tell ( let y n y )"),
            ("inputs tell ( fn x num ( fn x num x ) )", "inputs tell ( fn y num ( fn x num x ) )"),
        ):
            self.assertEqual(laid(read(one)), laid(read(other)))
        self.assertNotEqual(laid(read("inputs a b tell ( - a b )")), laid(read("inputs b a tell ( - a b )")))
        self.assertNotEqual(laid(read("inputs tell ( fn x num ( fn y num x ) )")),
                            laid(read("inputs tell ( fn x num ( fn y num y ) )")))

    def test_many(self):
        for term in many_terms():
            names = tuple(free(term))
            for inputs in (names, names[::-1], ("z",) + names):
                told = laid((inputs, term))
                self.assertEqual(told, model((inputs, term)))
                self.assertEqual(len(told), len(parts(term)))

    def test_drawn(self):
        for seed in range(300):
            for kind in KINDS[1::2]:
                program = drawn_program(seed, 4, kind)
                self.assertEqual(laid(program), model(program))

    def test_nothing_is_changed_or_kept(self):
        program = (("x",), ("let", "y", ("op", "+", X, ONE), ("call", ("fn", "x", FUN, TWO), Y)))
        told = laid(program)
        laid((("x",), X))
        self.assertEqual(laid(program), told)
        x, y = ("name", "x"), ("name", "y")
        self.assertEqual(program, (("x",), (
            "let", "y", ("op", "+", x, ("num", 1)), ("call", ("fn", "x", (NUM, NUM), ("num", 2)), y))))


class DepthAt(unittest.TestCase):
    def depths(self, text, depths):
        web = laid(read(text))
        told = {q: depth_at(web, q) for q, gate in enumerate(web) if gate[0] == "name"}
        self.assertEqual(told, depths, text)
        for depth in told.values():
            self.assertIs(type(depth), int)

    def test_in_the_same_level(self):
        self.depths("inputs tell ( fn x num x )", {1: 0})
        self.depths("inputs tell ( let x 1 x )", {2: 0})
        self.depths("inputs tell ( fn x num ( fn y num ( + x y ) ) )", {3: 0, 4: 1})
        self.depths("inputs tell ( let x 1 ( if x 2 3 ) )", {3: 0})
        self.depths("inputs tell ( call ( fn f < num num > ( call f 1 ) ) ( fn x num x ) )", {3: 0, 6: 0})

    def test_deeper(self):
        self.depths("inputs tell ( fn x num ( + x x ) )", {2: 0, 3: 1})
        self.depths("inputs tell ( fn x num ( if x x x ) )", {2: 0, 3: 1, 4: 1})
        self.depths("inputs tell ( let x 1 ( + x ( + x ( + x x ) ) ) )", {3: 0, 5: 1, 7: 2, 8: 3})
        self.depths("inputs tell ( fn x num ( call ( fn y num y ) ( call ( fn y num y ) x ) ) )", {3: 0, 6: 0, 7: 2})
        self.depths("inputs tell ( fn x num ( let y x ( let z y ( rec w num x ) ) ) )", {2: 1, 4: 1, 6: 1})

    def test_a_recs_name_is_in_its_box(self):
        self.depths("inputs tell ( rec x num x )", {1: 1})
        self.depths("inputs tell ( rec x num ( + x ( + x x ) ) )", {2: 1, 4: 2, 5: 3})
        self.depths("inputs tell ( rec f < num num > ( fn x num ( call f ( call f x ) ) ) )", {3: 1, 5: 2, 6: 2})

    def test_from_within_boxes(self):
        self.depths("inputs tell ( + 1 ( + 2 ( let x 3 ( + x x ) ) ) )", {7: 0, 8: 1})
        self.depths("inputs tell ( call ( fn x num 1 ) ( rec y num ( let x y x ) ) )", {5: 2, 6: 0})

    def test_a_recs_own_slip(self):
        web = laid(read("inputs tell ( + 1 ( rec x num x ) )"))
        self.assertEqual(depth_at(web, 2), 0)


if __name__ == "__main__":
    unittest.main()
