"""[7, 8] Programs, and how kinds, terms and programs are written."""

import unittest

from stillweb.writer import kind_text, written
from tests.samples import BIGGEST, FUN, NUM, ONE, SIGNS, X, Y, Z, all_plain, chain, many_terms


class Plainly:
    """Reads texts back, so that the tests see that no two programs share one."""

    def __init__(self, text):
        self.words = text.split(" ")

    def word(self):
        return self.words.pop(0)

    def after(self, thing, word):
        assert self.word() == word
        return thing

    def kind(self):
        word = self.word()
        if word == "<":
            return self.after((self.kind(), self.kind()), ">")
        assert word == "num"
        return word

    def term(self):
        word = self.word()
        if word != "(":
            return ("num", int(word)) if word.isdigit() else ("name", word)
        word = self.word()
        if word in SIGNS:
            return self.after(("op", word, self.term(), self.term()), ")")
        if word in ("fn", "rec"):
            return self.after((word, self.word(), self.kind(), self.term()), ")")
        if word == "let":
            return self.after((word, self.word(), self.term(), self.term()), ")")
        if word == "call":
            return self.after((word, self.term(), self.term()), ")")
        assert word == "if"
        return self.after((word, self.term(), self.term(), self.term()), ")")

    def program(self):
        assert self.word() == "inputs"
        names = []
        while self.words[0] != "tell":
            names.append(self.word())
        self.word()
        term = self.term()
        assert self.words == []
        return (tuple(names), term)


class KindText(unittest.TestCase):
    def test_kinds(self):
        for kind, text in (
            (NUM, "num"),
            (FUN, "< num num >"),
            ((FUN, NUM), "< < num num > num >"),
            ((NUM, FUN), "< num < num num > >"),
            (((NUM, FUN), (FUN, NUM)), "< < num < num num > > < < num num > num > >"),
        ):
            self.assertEqual(kind_text(kind), text)
            self.assertIs(type(kind_text(kind)), str)

    def test_deep(self):
        left = right = NUM
        for depth in range(30):
            left, right = (left, NUM), (NUM, right)
        self.assertEqual(kind_text(left), "< " * 30 + "num" + " num >" * 30)
        self.assertEqual(kind_text(right), "< num " * 30 + "num" + " >" * 30)


class Written(unittest.TestCase):
    def told(self, term, text):
        self.assertEqual(written(((), term)), "inputs tell " + text)

    def test_numbers(self):
        for n, text in ((0, "0"), (1, "1"), (10, "10"), (907, "907"), (BIGGEST, "9" * 18), (10 ** 17, "1" + "0" * 17)):
            self.told(("num", n), text)

    def test_each_form(self):
        self.told(("name", "abcdefgh"), "abcdefgh")
        self.told(("fn", "x", NUM, Y), "( fn x num y )")
        self.told(("fn", "x", (FUN, NUM), Y), "( fn x < < num num > num > y )")
        self.told(("call", X, Y), "( call x y )")
        self.told(("let", "x", Y, Z), "( let x y z )")
        self.told(("rec", "x", FUN, Y), "( rec x < num num > y )")
        self.told(("if", X, Y, Z), "( if x y z )")
        for s in SIGNS:
            self.told(("op", s, X, Y), "( " + s + " x y )")

    def test_within_one_another(self):
        term = ("let", "f", ("fn", "x", NUM, ("op", "*", X, X)), ("call", ("name", "f"), ("if", Y, ONE, ("num", 20))))
        self.assertEqual(
            written((("y",), term)),
            "inputs y tell ( let f ( fn x num ( * x x ) ) ( call f ( if y 1 20 ) ) )")

    def test_inputs(self):
        for names, text in (
            ((), "inputs tell x"),
            (("x",), "inputs x tell x"),
            (("x", "y"), "inputs x y tell x"),
            (("y", "x"), "inputs y x tell x"),
            (("a", "b", "c", "d"), "inputs a b c d tell x"),
            (("x", "x"), "inputs x x tell x"),
            (("x", "y", "x"), "inputs x y x tell x"),
            (("zz",), "inputs zz tell x"),
        ):
            told = written((names, X))
            self.assertEqual(told, text)
            self.assertIs(type(told), str)

    def test_words_of_terms_as_names(self):
        term = ("fn", "op", NUM, ("name", "name"))
        self.assertEqual(written((("name", "op"), term)), "inputs name op tell ( fn op num name )")

    def test_words_parted_by_one_blank(self):
        for term in many_terms():
            text = written((("x", "y"), term))
            self.assertTrue(all(text.split(" ")), text)
            self.assertEqual(text, " ".join(text.split()))

    def test_just_one_text_each(self):
        for term in many_terms():
            for names in ((), ("x",), ("x", "y"), ("y", "x", "y")):
                program = (names, term)
                self.assertEqual(Plainly(written(program)).program(), program)

    def test_told_again(self):
        terms = many_terms()[::7]
        self.assertEqual([written(((), term)) for term in terms], [written(((), term)) for term in terms[::-1]][::-1])

    def test_deep(self):
        text = written((("y",), chain(30)))
        self.assertEqual(Plainly(text).program(), (("y",), chain(30)))
        self.assertEqual(text.count("("), 30)

    def test_what_is_handed_in_stays(self):
        program = (("x", "x"), ("fn", "y", FUN, Z))
        written(program)
        self.assertEqual(program, (("x", "x"), ("fn", "y", ("num", "num"), ("name", "z"))))
        self.assertTrue(all_plain(program))


if __name__ == "__main__":
    unittest.main()
