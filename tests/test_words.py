"""[4] Names and kinds."""

import string
import unittest

from stillweb.words import is_kind, is_name, kind_depth
from tests.samples import FUN, KEPT, NUM


class Names(unittest.TestCase):
    def test_names(self):
        for text in ("a", "z", "m", "xy", "abcdefgh", "zzzzzzzz", "aaaaaaa"):
            self.assertIs(is_name(text), True, text)

    def test_every_small_letter(self):
        for letter in string.ascii_lowercase:
            self.assertIs(is_name(letter), True, letter)
            self.assertIs(is_name("ab" + letter), True, letter)

    def test_too_short_or_long(self):
        for text in ("", "abcdefghi", "aaaaaaaaa", "a" * 16, "a" * 1000):
            self.assertIs(is_name(text), False, text)

    def test_kept_words(self):
        for word in KEPT:
            self.assertIs(is_name(word), False, word)

    def test_beside_kept_words(self):
        for word in KEPT:
            for text in (word + "s", "a" + word, word[:-1], word[1:]):
                self.assertIs(is_name(text), True, text)

    def test_words_of_terms_that_are_not_kept(self):
        for text in ("op", "name", "on", "slip", "far", "in", "out", "keep"):
            self.assertIs(is_name(text), True, text)

    def test_other_signs_in_any_place(self):
        others = string.ascii_uppercase + string.digits + " _-+*<=>()~!'\"\\/.,:;@[]^`{|}\t\n\r\0"
        for sign in others + "\u00e4\u00df\u0430\u00aa\u017f\u212a\uff41\U0001d41a":
            for text in (sign, sign + "ab", "a" + sign + "b", "ab" + sign):
                self.assertIs(is_name(text), False, repr(text))

    def test_kept_words_written_otherwise(self):
        for word in KEPT:
            for text in (word.upper(), word.capitalize(), " " + word, word + " ", word + "\n"):
                self.assertIs(is_name(text), False, repr(text))

    def test_again(self):
        self.assertEqual([is_name("x"), is_name("fn"), is_name("x"), is_name("fn")], [True, False, True, False])


# Each with its depth.
KINDS = (
    (NUM, 0),
    (FUN, 1),
    ((FUN, NUM), 2),
    ((NUM, FUN), 2),
    ((FUN, FUN), 2),
    (((FUN, NUM), NUM), 3),
    ((NUM, (NUM, FUN)), 3),
    ((FUN, (NUM, FUN)), 3),
    (((NUM, FUN), FUN), 3),
    ((((NUM, FUN), NUM), (NUM, FUN)), 4),
)
NO_KINDS = (
    "", "nums", "nu", "Num", "num ", "fn", "x", 0, 1, -1, 5, True, False, None,
    (), (NUM,), (NUM, NUM, NUM), (FUN,), (FUN, FUN, FUN), ((), ()), ((NUM,), NUM),
)


class Kinds(unittest.TestCase):
    def test_kinds(self):
        for kind, depth in KINDS:
            self.assertIs(is_kind(kind), True, kind)

    def test_no_kinds(self):
        for thing in NO_KINDS:
            self.assertIs(is_kind(thing), False, thing)

    def test_no_kinds_inside(self):
        for thing in NO_KINDS:
            for outer in ((thing, NUM), (NUM, thing), ((NUM, thing), FUN), ((thing, NUM), NUM),
                          (FUN, (thing, NUM)), (NUM, (FUN, (NUM, thing))), (thing, thing)):
                self.assertIs(is_kind(outer), False, outer)

    def test_a_pair_of_texts_is_not_a_text_of_two(self):
        for thing in ("nn", (NUM, "nn"), ("nu", "m")):
            self.assertIs(is_kind(thing), False, thing)

    def test_thirty_deep(self):
        left, right, wrong = NUM, NUM, None
        for depth in range(1, 31):
            left, right, wrong = (left, NUM), (NUM, right), (NUM, wrong)
            self.assertIs(is_kind(left), True)
            self.assertIs(is_kind(right), True)
            self.assertIs(is_kind(wrong), False)
            self.assertEqual(kind_depth(left), depth)
            self.assertEqual(kind_depth(right), depth)

    def test_depth(self):
        for kind, depth in KINDS:
            told = kind_depth(kind)
            self.assertEqual(told, depth, kind)
            self.assertIs(type(told), int, kind)

    def test_depth_is_that_of_the_deeper_side(self):
        for one, one_depth in KINDS:
            for other, other_depth in KINDS:
                self.assertEqual(kind_depth((one, other)), 1 + max(one_depth, other_depth))


if __name__ == "__main__":
    unittest.main()
