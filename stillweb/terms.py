"""Terms: their forms, their parts, their free names, and putting in."""

from stillweb.words import is_kind, is_name, is_number

SIGNS = ("+", "-", "*", "<", "=")

# What stands behind a term's word, in order. The terms right in it always stand last.
FORMS = {
    "num": ("number",),
    "name": ("name",),
    "fn": ("name", "kind", "term"),
    "call": ("term", "term"),
    "let": ("name", "term", "term"),
    "rec": ("name", "kind", "term"),
    "op": ("sign", "term", "term"),
    "if": ("term", "term", "term"),
}


def fits(sort, thing):
    """Whether a thing may stand where a form asks for this sort."""
    if sort == "number":
        return is_number(thing)
    if sort == "name":
        return is_name(thing)
    if sort == "kind":
        return is_kind(thing)
    if sort == "sign":
        return thing in SIGNS
    # A term within: is_term looks at it in its turn.
    return True


def has_form(thing):
    """Whether a thing has the form of a term, whatever stands in it in the places of terms."""
    if not isinstance(thing, tuple) or len(thing) == 0:
        return False
    word = thing[0]
    if not isinstance(word, str) or word not in FORMS:
        return False
    form = FORMS[word]
    if len(thing) != 1 + len(form):
        return False
    return all(fits(sort, inner) for sort, inner in zip(form, thing[1:]))


def is_term(thing):
    """Whether a thing is a term."""
    due = [thing]
    while due:
        part = due.pop()
        if not has_form(part):
            return False
        due.extend(right_in(part))
    return True


def right_in(term):
    """The terms right in a term, in order."""
    form = FORMS[term[0]]
    return [inner for sort, inner in zip(form, term[1:]) if sort == "term"]


def parts(term):
    """A term's parts, in reading order."""
    found = []
    due = [term]
    while due:
        part = due.pop()
        found.append(part)
        # The last one put there is the next one taken, so the first part goes last.
        due.extend(right_in(part)[::-1])
    return found


def deep(term):
    """How deep a term is."""
    levels = 0
    layer = right_in(term)
    while layer:
        levels += 1
        layer = [inner for part in layer for inner in right_in(part)]
    return levels


def scopes(term):
    """The terms right in a term, in order, each with a tuple of the names that the term binds in it."""
    word = term[0]
    if word == "fn" or word == "rec":
        return [(term[3], (term[1],))]
    if word == "let":
        return [(term[2], ()), (term[3], (term[1],))]
    return [(inner, ()) for inner in right_in(term)]


def free(term):
    """The names that are free in a term, sorted."""
    found = set()
    due = [(term, ())]
    while due:
        part, bound = due.pop()
        if part[0] == "name" and part[1] not in bound:
            found.add(part[1])
        for inner, names in scopes(part):
            due.append((inner, bound + names))
    return sorted(found)


def put_in(term, name, other):
    """The term with the other, which has no free names, in the place of each free name of this name."""
    if term[0] == "name" and term[1] == name:
        return other
    inner = []
    for part, names in scopes(term):
        inner.append(part if name in names else put_in(part, name, other))
    return rebuilt(term, inner)


def rebuilt(term, inner):
    """The term with other terms right in it."""
    return term[:len(term) - len(inner)] + tuple(inner)
