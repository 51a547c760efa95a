"""The writer: texts of kinds and programs, words parted by one blank."""

from stillweb.terms import right_in


def kind_text(kind):
    """A kind's text."""
    if kind == "num":
        return "num"
    return f"< {kind_text(kind[0])} {kind_text(kind[1])} >"


def opening(term):
    """The words between a term's bracket and the first term right in it."""
    word = term[0]
    if word == "op":
        return [term[1]]
    if word == "let":
        return [word, term[1]]
    if word == "fn" or word == "rec":
        return [word, term[1], kind_text(term[2])]
    return [word]


def term_text(term):
    """A term's text."""
    if term[0] == "num":
        return str(term[1])
    if term[0] == "name":
        return term[1]
    words = ["("] + opening(term)
    for part in right_in(term):
        words.append(term_text(part))
    return " ".join(words + [")"])


def written(program):
    """A program's text."""
    names, term = program
    return " ".join(["inputs", *names, "tell", term_text(term)])
