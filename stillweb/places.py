"""Places: what binds each part of a term."""

from stillweb.terms import scopes


def places(term):
    """Each part of a term, in reading order, with the number of the part that binds it, or None."""
    found = []
    due = [(term, {})]
    while due:
        part, binders = due.pop()
        at = len(found)
        found.append((part, binders.get(part[1]) if part[0] == "name" else None))
        # The last one put there is the next one taken, so the first part goes last.
        for inner, names in scopes(part)[::-1]:
            due.append((inner, with_binder(binders, names, at)))
    return found


def with_binder(binders, names, at):
    """The numbers of the binding parts by their names, with part `at` the nearest one of these names."""
    near = dict(binders)
    for name in names:
        near[name] = at
    return near
