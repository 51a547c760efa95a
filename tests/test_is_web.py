"""[15] What stands as a web."""

import unittest

from stillweb.reader import read
from stillweb.terms import free, is_term
from stillweb.webs import is_web, laid
from tests.drawn import drawn_program
from tests.samples import BIGGEST, many_terms

# (text, how many inputs its web asks for at least)
TEXTS = (
    ("inputs tell 7", 0),
    ("inputs n tell n", 1),
    ("inputs a b c d tell d", 4),
    ("inputs a b tell ( + b a )", 2),
    ("inputs tell ( fn x num x )", 0),
    ("inputs tell ( call ( fn x num 1 ) 2 )", 0),
    ("inputs tell ( let x 1 x )", 0),
    ("inputs tell ( rec x num x )", 0),
    ("inputs tell ( if 1 2 3 )", 0),
    ("inputs tell ( let x ( let x 1 x ) ( fn y num ( - x ( rec x num ( + x y ) ) ) ) )", 0),
    ("inputs n tell ( call ( rec f < num num > ( fn x num ( if x ( call f ( - x 1 ) ) n ) ) ) 3 )", 1),
    # none of these is let by
    ("inputs tell ( call 1 2 )", 0),
    ("inputs n tell ( if ( fn x num x ) n ( call n n ) )", 1),
    ("inputs tell ( rec f num ( fn x num ( + f x ) ) )", 0),
    ("inputs tell ( fn x num ( call x x ) )", 0),
)
THINGS = (None, True, False, 0, 1, 2, 3, 5, -1, 60, BIGGEST, 10 ** 18, "", "x", "num", "name", "input", "op", "fn",
          "let", "rec", "call", "if", "+", "-", "<", (), (0,), (1,), (1, 2), (2, 1), (True,), (None,), ((),),
          (1, 2, 3), (1, True), (2,), (3,), (2, 3), ("+",), [], [1], [1, 2])


def term_of(thing, at, seen):
    """The term whose part this gate is, each binder with a name of its own."""
    assert type(at) is int and 0 <= at and at not in seen
    seen.append(at)
    word, note, inside, above, level, bound = thing[at]
    letters = [chr(97 + k) for k in range(26)]
    name = "v" + letters[at // 26] + letters[at % 26]
    inner = tuple(term_of(thing, k, seen) for k in inside)
    if word == "num":
        return ("num", note)
    if word == "input":
        assert type(note) is int and note >= 0
        return ("name", ("ia", "ib", "ic", "id")[note])
    if word == "name":
        assert type(bound) is int and bound >= 0
        return ("name", "v" + letters[bound // 26] + letters[bound % 26])
    if word in ("fn", "rec"):
        return (word, name, "num") + inner
    if word == "let":
        return (word, name) + inner
    return (word,) + ((note,) if word == "op" else ()) + inner


def stands(thing, inputs):
    """Whether a thing is a web, told another way: by the program that it would be the web of."""
    try:
        term = term_of(thing, 0, [])
        names = ("ia", "ib", "ic", "id")[:inputs]
        if not is_term(term) or not set(free(term)) <= set(names):
            return False
        # As texts, since a truth is the same as a number to Python.
        return repr(laid((names, term))) == repr(thing)
    except (AssertionError, IndexError, KeyError, TypeError, ValueError):
        return False


class IsWeb(unittest.TestCase):
    def holds(self, thing, inputs):
        self.assertIs(is_web(thing, inputs), True, (thing, inputs))

    def fails(self, thing, inputs):
        self.assertIs(is_web(thing, inputs), False, (thing, inputs))

    def changed(self, text, at, field, thing):
        web = laid(read(text))
        gate = web[at][:field] + (thing,) + web[at][field + 1:]
        return web[:at] + (gate,) + web[at + 1:]


class Webs(IsWeb):
    def test_with_so_many_inputs_and_fewer_and_more(self):
        for text, least in TEXTS:
            web = laid(read(text))
            for inputs in range(5):
                self.assertIs(is_web(web, inputs), inputs >= least, (text, inputs))
                self.assertIs(stands(web, inputs), inputs >= least)

    def test_many(self):
        for term in many_terms()[::3]:
            names = tuple(free(term))
            self.holds(laid((names, term)), len(names))
            for fewer in range(len(names)):
                self.fails(laid((names, term)), fewer)

    def test_drawn(self):
        for seed in range(200):
            program = drawn_program(seed, 4)
            self.holds(laid(program), len(program[0]))
            self.holds(laid(program), 4)

    def test_sixty_gates_and_fifteen_deep(self):
        text = "0"
        for level in range(15):
            text = f"( if {level} 1 {text} )"
        web = laid(read(f"inputs tell {text}"))
        self.holds(web, 0)
        self.assertEqual(web[-1][4], 15)

    def test_every_binding_around_may_be_the_nearest_of_its_name(self):
        text = "inputs tell ( let x 1 ( fn y num ( rec z num ( + x 2 ) ) ) )"
        for binder in (0, 2, 3):
            self.holds(self.changed(text, 5, 5, binder), 0)


class NoWebs(IsWeb):
    def test_no_tuples_at_all(self):
        for thing in (None, True, False, 0, 1, "", "web", "num", [], [("num", 7, (), None, 0, None)]):
            self.fails(thing, 0)
            self.fails(thing, 4)

    def test_no_gates(self):
        self.fails((), 0)
        self.fails((), 4)
        for thing in (None, True, 0, "num", (), ("num",), ("num", 7, (), None, 0), ("num", 7, (), None, 0, None, None),
                      ["num", 7, (), None, 0, None], ((),), "number"):
            self.fails((thing,), 0)
            self.fails((("num", 7, (), None, 0, None), thing), 0)
        self.fails(("num", 7, (), None, 0, None), 0)

    def test_another_word(self):
        for word in ("", "Num", "nums", "input", "name", "fn", "op", None, 7, True, ("num",), ["num"]):
            self.fails(self.changed("inputs tell 7", 0, 0, word), 4)
        self.fails(self.changed("inputs tell ( call 1 2 )", 0, 0, "let"), 0)
        self.fails(self.changed("inputs tell ( rec x num 1 )", 0, 0, "fn"), 0)

    def test_a_word_that_fits_as_well(self):
        self.holds(self.changed("inputs tell ( fn x num 1 )", 0, 0, "fn"), 0)
        self.fails(self.changed("inputs tell ( fn x num 1 )", 0, 0, "rec"), 0)
        rec = (("rec", None, (1,), None, 0, None), ("num", 1, (), 0, 1, None))
        self.holds(rec, 0)

    def test_another_note(self):
        for note in (-1, 10 ** 18, True, False, None, "7", "", (), (7,), [7]):
            self.fails(self.changed("inputs tell 7", 0, 1, note), 4)
        for note in (0, 1, BIGGEST):
            self.holds(self.changed("inputs tell 7", 0, 1, note), 0)
        for note in (-1, 4, True, False, None, "a", "0", ()):
            self.fails(self.changed("inputs a tell a", 0, 1, note), 4)
        for note in ("", "/", "op", "++", None, 0, True, (), ("+",), [], ["+"]):
            self.fails(self.changed("inputs tell ( + 1 2 )", 0, 1, note), 0)
        for text in ("fn x num x", "rec x num x", "let x 1 x", "call 1 2", "if 1 2 3"):
            for note in (0, 1, True, False, "", "x", ()):
                self.fails(self.changed(f"inputs tell ( {text} )", 0, 1, note), 4)
        self.fails(self.changed("inputs tell ( fn x num x )", 1, 1, 0), 4)

    def test_the_note_of_an_input_and_how_many_inputs(self):
        for note in range(4):
            for inputs in range(5):
                self.assertIs(is_web((("input", note, (), None, 0, None),), inputs), note < inputs)

    def test_other_parts(self):
        for inside in ((), (1,), (2, 1), (1, 1), (1, 2, 3), (0, 1), (True, 2), (1, None), (1, "2"), [1, 2], None, 1,
                       "12"):
            self.fails(self.changed("inputs tell ( + 1 2 )", 0, 2, inside), 0)
        for inside in ((1,), (0,), None, [], 0, "", False):
            self.fails(self.changed("inputs tell 7", 0, 2, inside), 0)
        self.fails(self.changed("inputs tell ( fn x num 1 )", 0, 2, (True,)), 0)

    def test_another_above(self):
        for above in (0, 1, -1, False, "", ()):
            self.fails(self.changed("inputs tell 7", 0, 3, above), 0)
        for above in (None, 1, 2, -1, False, "0", (), (0,)):
            self.fails(self.changed("inputs tell ( + 1 2 )", 1, 3, above), 0)
        self.fails(self.changed("inputs tell ( fn x num ( fn y num 1 ) )", 2, 3, True), 0)

    def test_another_level(self):
        for level in (1, -1, None, False, "0", ()):
            self.fails(self.changed("inputs tell 7", 0, 4, level), 0)
        for level in (0, 2, None, True, "1"):
            self.fails(self.changed("inputs tell ( + 1 2 )", 2, 4, level), 0)

    def test_another_bound(self):
        for text, at in (("7", 0), ("( fn x num x )", 0), ("( + 1 2 )", 2), ("( let x 1 2 )", 2)):
            for bound in (0, 1, False, "", ()):
                self.fails(self.changed(f"inputs tell {text}", at, 5, bound), 0)
        for bound in (None, 1, 2, -1, False, "0", (), (0,)):
            self.fails(self.changed("inputs tell ( fn x num x )", 1, 5, bound), 0)
        self.fails(self.changed("inputs tell ( fn x num ( fn y num y ) )", 2, 5, True), 0)
        self.fails(self.changed("inputs n tell n", 0, 5, 0), 1)

    def test_a_bound_that_is_not_around_the_name(self):
        text = "inputs tell ( + ( fn x num x ) ( fn y num y ) )"
        self.fails(self.changed(text, 2, 5, 3), 0)
        self.fails(self.changed(text, 4, 5, 1), 0)
        self.fails(self.changed(text, 4, 5, 4), 0)

    def test_a_bound_whose_a_the_name_is_in(self):
        text = "inputs tell ( fn x num ( let y ( + x x ) y ) )"
        self.holds(laid(read(text)), 0)
        self.fails(self.changed(text, 3, 5, 1), 0)
        self.fails(self.changed(text, 4, 5, 1), 0)
        self.holds(self.changed(text, 5, 5, 0), 0)
        direct = "inputs tell ( fn x num ( let y x y ) )"
        self.fails(self.changed(direct, 2, 5, 1), 0)

    def test_a_bound_that_binds_nothing(self):
        text = "inputs tell ( fn x num ( call x ( if x x ( + x x ) ) ) )"
        for at in (2, 4, 5, 7, 8):
            for bound in (1, 3, 6):
                self.fails(self.changed(text, at, 5, bound), 0)

    def test_gates_more_fewer_twice_and_exchanged(self):
        for text, least in TEXTS:
            web = laid(read(text))
            for at in range(len(web)):
                for thing in (web[:at] + web[at + 1:], web[:at] + web[at:at + 1] + web[at:],
                              web + (web[at],), (web[at],) + web, web[:at]):
                    self.assertIs(is_web(thing, 4), stands(thing, 4), thing)
                    self.assertIs(is_web(thing, 4), thing == web)
                for other in range(at):
                    gates = list(web)
                    gates[at], gates[other] = gates[other], gates[at]
                    self.assertIs(is_web(tuple(gates), 4), stands(tuple(gates), 4), gates)
            self.fails(web + web, 4)
            self.fails(web[::-1] if len(web) > 1 else (), 4)
            self.fails(list(web), 4)
            self.fails((web,), 4)

    def test_each_field_of_each_gate_otherwise(self):
        seen = {True: 0, False: 0}
        for text, least in TEXTS:
            for at in range(len(laid(read(text)))):
                for field in range(6):
                    for thing in THINGS:
                        web = self.changed(text, at, field, thing)
                        for inputs in (least, 4):
                            told = is_web(web, inputs)
                            self.assertIs(told, stands(web, inputs), (web, inputs))
                            seen[told] += 1
        self.assertGreater(min(seen.values()), 500)

    def test_what_was_asked_ahead_changes_nothing(self):
        webs = [laid(read(text)) for text, least in TEXTS]
        there = [is_web(web, 0) for web in webs]
        is_web((), 0)
        self.assertEqual([is_web(web, 0) for web in webs[::-1]], there[::-1])


if __name__ == "__main__":
    unittest.main()
