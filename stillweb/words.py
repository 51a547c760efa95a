"""Names, kinds and numbers: what stands in terms beside other terms."""

KEPT_WORDS = ("inputs", "tell", "fn", "call", "let", "rec", "if", "num")
SMALL_LETTERS = "abcdefghijklmnopqrstuvwxyz"
LONGEST_NAME = 8
PAST_NUMBERS = 10 ** 18


def is_name(text):
    """Whether a text is a name."""
    if not isinstance(text, str) or text in KEPT_WORDS:
        return False
    # Letter by letter: Python's own tests for small letters also take those of other alphabets.
    return 1 <= len(text) <= LONGEST_NAME and all(letter in SMALL_LETTERS for letter in text)


def is_number(thing):
    """Whether a thing is a number that may stand in a term."""
    # A truth is an int to Python, but no whole number here.
    if isinstance(thing, bool) or not isinstance(thing, int):
        return False
    return 0 <= thing < PAST_NUMBERS


def is_kind(thing):
    """Whether a thing is a kind."""
    if isinstance(thing, tuple):
        return len(thing) == 2 and is_kind(thing[0]) and is_kind(thing[1])
    return thing == "num"


def kind_depth(kind):
    """How deep a kind is."""
    if kind == "num":
        return 0
    return 1 + max(kind_depth(kind[0]), kind_depth(kind[1]))
