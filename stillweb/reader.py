"""The reader: programs from their texts, and of what is no text the very word that can't stand there."""

from stillweb.errors import NoText
from stillweb.terms import FORMS, SIGNS
from stillweb.words import is_name

FIGURES = "0123456789"
MOST_FIGURES = 18

# The words that stand right behind a term's bracket; a sign stands there for an op.
OPENERS = ("fn", "call", "let", "rec", "if")


def read(text):
    """The program that has this text."""
    words = text.split(" ")
    names, start = inputs_read(words)
    return names, term_read(words, start)


def inputs_read(words):
    """The inputs' names, and the number of the word at which the term begins."""
    if words[0] != "inputs":
        raise NoText(0)
    at = 1
    while at < len(words) and is_name(words[at]):
        at += 1
    if at == len(words) or words[at] != "tell":
        raise NoText(at)
    return tuple(words[1:at]), at + 1


def term_read(words, start):
    """The term that all words from this one on are."""
    # What is due stands last thing first, so that brackets may lie as deep as they like.
    due = ["term"]
    made = []
    opened = []
    for at in range(start, len(words)):
        if not due or not taken(words[at], due, made, opened):
            raise NoText(at)
    if due:
        raise NoText(len(words))
    return made[0]


def taken(word, due, made, opened):
    """Whether the word can stand where the last thing due is; then that is done."""
    sort = due.pop()
    if sort == "term":
        return term_begun(word, due, made, opened)
    if sort == "form":
        return form_begun(word, due, made)
    if sort == "kind":
        return kind_begun(word, due, made, opened)
    if sort == "name":
        made.append(word)
        return is_name(word)
    # Else it is a bracket that closes.
    close(made, opened)
    return word == sort


def term_begun(word, due, made, opened):
    """Whether a term begins with the word."""
    if word == "(":
        opened.append(len(made))
        due.extend([")", "form"])
        return True
    if is_name(word):
        made.append(("name", word))
        return True
    if is_written_number(word):
        made.append(("num", int(word)))
        return True
    return False


def form_begun(word, due, made):
    """Whether the word can stand right behind a term's bracket."""
    if word in SIGNS:
        made.extend(["op", word])
        due.extend(["term", "term"])
        return True
    if word in OPENERS:
        made.append(word)
        due.extend(FORMS[word][::-1])
        return True
    return False


def kind_begun(word, due, made, opened):
    """Whether a kind begins with the word."""
    if word == "<":
        opened.append(len(made))
        due.extend([">", "kind", "kind"])
        return True
    made.append(word)
    return word == "num"


def close(made, opened):
    """All that was made behind the last open bracket becomes one thing."""
    start = opened.pop()
    whole = tuple(made[start:])
    del made[start:]
    made.append(whole)


def is_written_number(word):
    """Whether the word is a number by its figures."""
    if not 1 <= len(word) <= MOST_FIGURES:
        return False
    # Figure by figure: Python's own tests also take figures of other scripts.
    if not all(figure in FIGURES for figure in word):
        return False
    return word == "0" or word[0] != "0"
