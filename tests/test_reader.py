"""[8] Reading: each text to its very program, and what is none refused at the very word."""

import unittest

from stillweb.errors import NoText, WebError
from stillweb.reader import read
from stillweb.writer import written
from tests.samples import (BIGGEST, EACH_FORM, FUN, KEPT, NUM, ONE, SIGNS, X, Y, Z, all_plain, chain, many_terms,
                           nest)

LONG = "inputs y z tell ( let f ( fn x < num num > ( * ( call x 10 ) y ) ) ( call f ( rec g num ( if z 0 g ) ) ) )"
GOOD = (
    "inputs tell 0",
    "inputs tell x",
    "inputs x x tell x",
    "inputs a b c d tell ( + a ( - b ( * c ( < d ( = a 7 ) ) ) ) )",
    "inputs tell ( fn x < < num num > < num < num num > > > x )",
    "inputs n tell ( call ( rec f < num num > ( fn x num ( if ( < x 2 ) x ( call f ( - x 1 ) ) ) ) ) n )",
    LONG,
)

# Words that stand in one place of a text or another, and such as stand nowhere.
WORDS = KEPT + SIGNS + (
    "(", ")", ">", "x", "abcdefgh", "0", "7", "10", "9" * 18, "op", "name", "nums",
    "", "abcdefghi", "X", "aB", "x1", "1x", "00", "01", "1" + "0" * 18, "9" * 19, "0" * 18, "-1", "+1", "1.0", "1_0",
    "/", "==", "((", "()", "<>", "(fn", "Num", "[", "{", "inputs,", "tell:", "~", "!", "_",
)


class Wrong(Exception):
    pass


class Model:
    """Where a text goes wrong, told another way: down by calls, word by word."""

    def __init__(self, text):
        self.words = text.split(" ")
        self.at = -1

    def next(self):
        self.at += 1
        if self.at == len(self.words):
            raise Wrong
        return self.words[self.at]

    def one_of(self, right):
        if not right:
            raise Wrong

    def name(self):
        word = self.next()
        self.one_of(word.isascii() and word.isalpha() and word.islower() and len(word) < 9 and word not in KEPT)

    def kind(self):
        word = self.next()
        self.one_of(word in ("num", "<"))
        if word == "<":
            self.kind()
            self.kind()
            self.one_of(self.next() == ">")

    def term(self):
        word = self.next()
        if word != "(":
            if word[:1].isdigit():
                self.one_of(word.isdigit() and str(int(word)) == word and len(word) <= 18)
            else:
                self.at -= 1
                self.name()
            return
        word = self.next()
        self.one_of(word in SIGNS + ("fn", "rec", "let", "call", "if"))
        if word in ("fn", "rec", "let"):
            self.name()
        if word in ("fn", "rec"):
            self.kind()
        for part in range({"fn": 1, "rec": 1, "if": 3}.get(word, 2)):
            self.term()
        self.one_of(self.next() == ")")

    def wrong_at(self):
        """The number of the word, or None of a good text."""
        try:
            self.one_of(self.next() == "inputs")
            while self.next() != "tell":
                self.at -= 1
                self.name()
            self.term()
            self.at += 1
            return None if self.at == len(self.words) else self.at
        except Wrong:
            return self.at


class Reading(unittest.TestCase):
    def refused(self, text, at):
        with self.assertRaises(NoText, msg=text) as held:
            read(text)
        self.assertEqual(held.exception.at, at, text)
        self.assertIs(type(held.exception.at), int)

    def as_the_model(self, text):
        at = Model(text).wrong_at()
        if at is None:
            self.assertEqual(written(read(text)), text)
        else:
            self.refused(text, at)


class Read(Reading):
    def back(self, program):
        told = read(written(program))
        self.assertEqual(told, program)
        self.assertIs(type(told), tuple)
        self.assertIs(type(told[0]), tuple)
        self.assertTrue(all_plain(told))

    def test_a_whole_text(self):
        self.assertEqual(read(LONG), (("y", "z"), (
            "let", "f", ("fn", "x", FUN, ("op", "*", ("call", X, ("num", 10)), Y)),
            ("call", ("name", "f"), ("rec", "g", NUM, ("if", Z, ("num", 0), ("name", "g")))))))

    def test_each_form(self):
        for term, inner in EACH_FORM:
            self.back(((), term))
        for s in SIGNS:
            self.back(((), ("op", s, X, Y)))
        self.assertEqual(read("inputs tell ( - 1 2 )"), ((), ("op", "-", ONE, ("num", 2))))
        self.assertEqual(read("inputs tell ( fn x < num num > y )"), ((), ("fn", "x", (NUM, NUM), Y)))

    def test_inputs(self):
        for names in ((), ("x",), ("x", "y"), ("y", "x"), ("a", "b", "c", "d"), ("x", "x"), ("x", "y", "x", "y")):
            self.back((names, X))
        self.assertEqual(read("inputs x y x tell y"), (("x", "y", "x"), Y))

    def test_more_inputs_than_a_program_may_have(self):
        self.back((("a", "b", "c", "d", "e", "f") * 9, X))

    def test_free_names(self):
        self.back(((), ("call", X, ("fn", "y", NUM, ("op", "+", Y, Z)))))
        self.back((("x",), ("let", "x", Y, Z)))

    def test_numbers(self):
        for n in (0, 1, 9, 10, 100, 907, 10 ** 17, BIGGEST):
            self.back(((), ("num", n)))
            self.assertIs(type(read(f"inputs tell {n}")[1][1]), int)

    def test_names(self):
        for name in ("a", "z", "abcdefgh", "zzzzzzzz", "op", "name", "nums", "fns", "on", "asks"):
            self.back(((name,), ("fn", name, NUM, ("name", name))))

    def test_kinds_deep(self):
        left = right = NUM
        for depth in range(28):
            left, right = (left, NUM), (NUM, right)
            for kind in (left, right, (left, right)):
                self.back(((), ("fn", "x", kind, X)))
                self.back(((), ("rec", "x", kind, X)))

    def test_brackets_deep(self):
        self.back((("y",), chain(30)))
        self.back((("y",), nest(30)))

    def test_more_parts_and_deeper_than_a_program_may_be(self):
        self.back((("y",), nest(199)))
        term = X
        for level in range(7):
            term = ("op", "+", term, term)
        self.back(((), term))

    def test_many(self):
        for term in many_terms():
            for names in ((), ("x",), ("y", "x", "y")):
                self.back((names, term))

    def test_nothing_hangs_on_what_was_asked_ahead(self):
        there = [read(text) for text in GOOD]
        self.refused("inputs tell (", 3)
        self.assertEqual([read(text) for text in GOOD[::-1]], there[::-1])


class Refused(Reading):
    def test_the_refusal(self):
        self.assertTrue(issubclass(NoText, WebError))
        self.refused("inputs tell ( )", 3)

    def test_every_beginning_of_a_good_text(self):
        for text in GOOD:
            words = text.split(" ")
            self.assertIsNone(Model(text).wrong_at())
            for many in range(1, len(words)):
                self.refused(" ".join(words[:many]), many)

    def test_words_more_behind(self):
        for text in GOOD:
            many = text.count(" ") + 1
            for word in WORDS:
                self.refused(f"{text} {word}", many)
                self.refused(f"{text} {word} {text}", many)

    def test_without_signs_and_blanks(self):
        self.refused("", 0)
        self.refused(" ", 0)
        self.refused("  ", 0)
        self.refused(" inputs tell 0", 0)
        self.refused("inputs ", 1)
        self.refused("inputs tell ", 2)
        self.refused("inputs tell 0 ", 3)
        self.refused("inputs tell 0  ", 3)

    def test_two_blanks_side_by_side(self):
        for text in GOOD:
            words = text.split(" ")
            for at in range(1, len(words)):
                self.refused(" ".join(words[:at] + [""] + words[at:]), at)

    def test_a_blank_ahead_and_behind(self):
        for text in GOOD:
            self.refused(" " + text, 0)
            self.refused(text + " ", text.count(" ") + 1)

    def test_other_blanks_part_no_words(self):
        self.refused("inputs\ttell 0", 0)
        self.refused("inputs tell\n0", 1)
        self.refused("inputs tell 0\n", 2)

    def test_ahead_of_the_term(self):
        for text, at in (
            ("tell 0", 0), ("0", 0), ("Inputs tell 0", 0), ("inputs inputs tell 0", 1), ("inputs 0", 1),
            ("inputs x", 2), ("inputs x 0 tell 0", 2), ("inputs x ( tell 0", 2), ("inputs x num tell 0", 2),
            ("inputs abcdefghi tell 0", 1), ("inputs x Y tell 0", 2), ("inputs tell tell 0", 2), ("inputs tell", 2),
        ):
            self.refused(text, at)

    def test_names(self):
        for word in KEPT + SIGNS + ("abcdefghi", "Abc", "aBc", "x1", "1x", "(", ")", ">", "", "x_y", "x-"):
            if word == "tell":
                continue
            self.refused(f"inputs {word} tell 0", 1)
            for form in ("fn {} num 0", "rec {} num 0", "let {} 0 0"):
                self.refused("inputs tell ( " + form.format(word) + " )", 4)

    def test_tell_for_a_name(self):
        self.refused("inputs tell ( let tell 0 0 )", 4)
        self.assertEqual(read("inputs tell tells"), ((), ("name", "tells")))
        self.refused("inputs x tell tell", 3)

    def test_terms(self):
        for word in KEPT + SIGNS + ("abcdefghi", "X", "x1", ")", ">", "", "op,"):
            self.refused(f"inputs tell {word}", 2)
            self.refused(f"inputs tell ( call {word} 0 )", 4)
            self.refused(f"inputs tell ( call 0 {word} )", 5)
            self.refused(f"inputs tell ( if 0 0 {word} )", 6)
            self.refused(f"inputs tell ( + ( - 1 {word} ) 0 )", 7)

    def test_numbers(self):
        for word in ("00", "01", "000", "0" * 18, "-1", "+1", "-0", "1.", "1e3", "1_000", "0x1", "1" * 19,
                     "9" * 19, "1" + "0" * 18, "0" + "1" * 17, "1" * 4000, "\u0661", "\u00b2", "1\u0662", "\uff11"):
            self.refused(f"inputs tell {word}", 2)
            self.refused(f"inputs tell ( + 0 {word} )", 5)
        for word in ("0", "1" * 18, "9" * 18, "1" + "0" * 17):
            self.assertEqual(read(f"inputs tell {word}"), ((), ("num", int(word))))

    def test_names_of_other_alphabets(self):
        for word in ("\u00e4", "\u0430", "\u00df", "a\u00aa"):
            self.refused(f"inputs tell {word}", 2)
            self.refused(f"inputs {word} tell 0", 1)

    def test_right_behind_a_bracket(self):
        for word in ("inputs", "tell", "num", "op", "name", "x", "0", "7", "(", ")", ">", "", "Fn", "fns", "/", "=="):
            self.refused(f"inputs tell ( {word} 0 0 )", 3)
            self.refused(f"inputs tell ( + 0 ( {word} x num 0 ) )", 6)

    def test_kinds(self):
        for word in KEPT[:-1] + (">", "(", ")", "x", "0", "", "nums", "Num", "<>", "+", "="):
            for form in ("fn", "rec"):
                self.refused(f"inputs tell ( {form} x {word} 0 )", 5)
                self.refused(f"inputs tell ( {form} x < {word} num > 0 )", 6)
                self.refused(f"inputs tell ( {form} x < num {word} > 0 )", 7)
        self.refused("inputs tell ( fn x < num num num > 0 )", 8)
        self.refused("inputs tell ( fn x < num num ) 0 )", 8)
        self.refused("inputs tell ( fn x < num num 0 )", 8)
        self.refused("inputs tell ( fn x num num 0 )", 6)
        self.refused("inputs tell ( fn x < num > 0 )", 7)

    def test_brackets_that_close(self):
        for text, at in (
            ("( call 0 )", 5), ("( call 0 0 0 )", 6), ("( call 0 0 >", 6), ("( if 0 0 )", 6), ("( if 0 0 0 0 )", 7),
            ("( + 0 )", 5), ("( + 0 0 0 )", 6), ("( fn x num )", 6), ("( fn x num 0 0 )", 7), ("( let x 0 )", 6),
            ("( let x 0 0 0 )", 7), ("( rec x num )", 6), ("( rec x num 0 0 )", 7), ("( + 0 0 ) )", 7), ("0 )", 3),
            ("( + ( + 0 0 ) 0", 10), ("( 0 )", 3), ("( x )", 3), ("( )", 3), (")", 2), ("( ( + 0 0 ) )", 3),
        ):
            self.refused("inputs tell " + text, at)

    def test_a_wrong_word_ahead_of_another(self):
        self.refused("inputs tell ( + X 01 )", 4)
        self.refused("inputs X tell ( + 0 01 )", 1)
        self.refused("outputs X tell", 0)
        self.refused("inputs tell ( + 01", 4)
        self.refused("inputs tell ( fn num num", 4)
        self.refused("inputs tell  ( ", 2)

    def test_each_word_otherwise(self):
        for text in GOOD:
            words = text.split(" ")
            for at in range(len(words)):
                for word in WORDS:
                    self.as_the_model(" ".join(words[:at] + [word] + words[at + 1:]))

    def test_each_word_left_out_or_more(self):
        for text in GOOD:
            words = text.split(" ")
            for at in range(len(words)):
                self.as_the_model(" ".join(words[:at] + words[at + 1:]))
                for word in WORDS:
                    self.as_the_model(" ".join(words[:at] + [word] + words[at:]))

    def test_two_words_otherwise(self):
        words = GOOD[5].split(" ")
        for at in range(len(words)):
            for other in range(at):
                for one, two in ((")", "("), ("num", "x"), ("", "<"), ("x", "0"), ("tell", "fn")):
                    changed = list(words)
                    changed[at], changed[other] = one, two
                    self.as_the_model(" ".join(changed))
                changed = list(words)
                changed[at], changed[other] = words[other], words[at]
                self.as_the_model(" ".join(changed))

    def test_texts_of_two_to_four_words_of_a_few(self):
        few = ("inputs", "tell", "x", "0", "(", "")
        texts = [""]
        for many in range(4):
            texts = [f"{text} {word}" if many else word for text in texts for word in few]
            for text in texts:
                self.as_the_model(text)

    def test_the_words_ahead_of_the_wrong_one_are_a_beginning(self):
        for text in GOOD:
            words = text.split(" ")
            for at in range(1, len(words)):
                with self.assertRaises(NoText) as held:
                    read(" ".join(words[:at] + ["inputs"] + words[at + 1:]))
                self.assertEqual(held.exception.at, at)
                self.refused(" ".join(words[:at]), at)


if __name__ == "__main__":
    unittest.main()
