"""Programs drawn by a rule that hangs on no chance: the same ones each time."""

from tests.samples import BIGGEST, FUN, NUM, SIGNS

KINDS = (NUM, NUM, FUN, FUN, (FUN, NUM), (NUM, FUN), (FUN, FUN))
NAMES = ("x", "y", "f", "g")


class Draw:
    """Numbers by a rule, one behind the other."""

    def __init__(self, seed):
        self.state = seed * 2 + 1

    def below(self, n):
        self.state = (self.state * 6364136223846793005 + 1442695040888963407) % 2 ** 64
        return (self.state >> 33) % n

    def one_of(self, things):
        return things[self.below(len(things))]

    def number(self):
        return self.one_of((0, 0, 1, 1, 2, 3, 5, 10, 10 ** 9, BIGGEST))


def small(draw, kind, bound):
    """A small term of a kind: a name of that kind, where there is one, or the simplest other one."""
    fitting = [name for name in sorted(bound) if bound[name] == kind]
    if fitting and draw.below(3):
        return ("name", draw.one_of(fitting))
    if kind == NUM:
        return ("num", draw.number())
    name = draw.one_of(NAMES)
    return ("fn", name, kind[0], small(draw, kind[1], {**bound, name: kind[0]}))


def drawn_term(draw, kind, bound, levels):
    """A term of a kind that is let by where names are bound to these kinds."""
    if levels == 0:
        return small(draw, kind, bound)
    name = draw.one_of(NAMES)
    other = draw.one_of(KINDS)
    forms = ["call", "call", "let", "let", "small"]
    forms += ["op", "op", "op", "if", "rec"] if kind == NUM else ["fn", "fn", "fn", "rec"]
    form = draw.one_of(forms)
    if form == "fn":
        return ("fn", name, kind[0], drawn_term(draw, kind[1], {**bound, name: kind[0]}, levels - 1))
    if form == "rec":
        return ("rec", name, kind, drawn_term(draw, kind, {**bound, name: kind}, levels - 1))
    if form == "call":
        f = drawn_term(draw, (other, kind), bound, levels - 1)
        return ("call", f, drawn_term(draw, other, bound, levels - 1))
    if form == "let":
        a = drawn_term(draw, other, bound, levels - 1)
        return ("let", name, a, drawn_term(draw, kind, {**bound, name: other}, levels - 1))
    if form == "op":
        s = draw.one_of(SIGNS)
        return ("op", s, drawn_term(draw, NUM, bound, levels - 1), drawn_term(draw, NUM, bound, levels - 1))
    if form == "if":
        return ("if",) + tuple(drawn_term(draw, NUM, bound, levels - 1) for place in range(3))
    return small(draw, kind, bound)


def drawn_program(seed, levels=3, kind=NUM):
    """A program of a kind that is let by."""
    draw = Draw(seed)
    names = ("x", "y", "a", "b")[:draw.below(5)]
    return names, drawn_term(draw, kind, {name: NUM for name in names}, levels)


def drawn_values(seed, program):
    """Values for a program's inputs."""
    draw = Draw(seed + 1000003)
    return [draw.number() for name in program[0]]
