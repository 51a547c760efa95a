"""Things that several tests look at: terms of each form, many mixed ones, and deep ones."""

from itertools import product

KEPT = ("inputs", "tell", "fn", "call", "let", "rec", "if", "num")
SIGNS = ("+", "-", "*", "<", "=")
BIGGEST = 10 ** 18 - 1

NUM = "num"
FUN = (NUM, NUM)
ONE = ("num", 1)
TWO = ("num", 2)
X = ("name", "x")
Y = ("name", "y")
Z = ("name", "z")

# One term of each form, with the terms right in it, in order.
EACH_FORM = (
    (("num", 7), []),
    (("name", "x"), []),
    (("fn", "x", NUM, Y), [Y]),
    (("call", X, Y), [X, Y]),
    (("let", "x", Y, Z), [Y, Z]),
    (("rec", "x", FUN, Y), [Y]),
    (("op", "+", X, Y), [X, Y]),
    (("if", X, Y, Z), [X, Y, Z]),
)


def all_over(terms):
    """Every term of one more level over some terms, with two names and two kinds."""
    names = ("x", "y")
    kinds = (NUM, (FUN, NUM))
    pairs = list(product(terms, terms))
    found = [(word, x, kind, b) for word in ("fn", "rec") for x in names for kind in kinds for b in terms]
    found += [("call", f, a) for f, a in pairs]
    found += [("let", x, a, b) for x in names for a, b in pairs]
    found += [("op", s, a, b) for s in SIGNS for a, b in pairs]
    found += [("if", c, a, b) for c, a, b in product(terms, terms, terms)]
    return found


def many_terms():
    """Terms of no, one and two levels, and some of three."""
    atoms = [("num", 0), ("num", BIGGEST), X, Y]
    first = all_over(atoms)
    second = all_over(first[::37] + [X])
    third = all_over(second[::len(second) // 6] + [Y])
    return atoms + first + second + third


def chain(links):
    """A term of 2 * links + 1 parts, links deep, with a name y at its bottom."""
    term = Y
    for at in range(links):
        term = ("op", "+", ("num", at), term)
    return term


def nest(links):
    """A term of links + 1 parts, links deep, with a name y at its bottom that is free."""
    term = Y
    for at in range(links):
        term = ("fn", "x", NUM, term)
    return term


def all_plain(thing):
    """Whether a thing told is made of tuples, texts, whole numbers, truths and None alone."""
    if type(thing) is tuple:
        return all(all_plain(inner) for inner in thing)
    return thing is None or type(thing) in (str, int, bool)
