"""Places: where each part of a term stands, and what binds it."""

from stillweb.terms import scopes


def places(term):
    """A row for each part, in reading order: (the part, the numbers of the parts right in it, the number of the
    part in which it stands, that of the part that binds it); None where there is no such part."""
    found = []
    insides = []
    due = [(term, None, {})]
    while due:
        part, above, binders = due.pop()
        at = len(found)
        binder = binders.get(part[1]) if part[0] == "name" else None
        found.append((part, above, binder))
        insides.append([])
        if above is not None:
            insides[above].append(at)
        # The last one put there is the next one taken, so the first part goes last.
        for inner, names in scopes(part)[::-1]:
            due.append((inner, at, with_binder(binders, names, at)))
    return [(part, tuple(inside), above, binder) for (part, above, binder), inside in zip(found, insides)]


def with_binder(binders, names, at):
    """The numbers of the binding parts by their names, with part `at` the nearest one of these names."""
    near = dict(binders)
    for name in names:
        near[name] = at
    return near


def insides_first(rows):
    """The numbers of all parts, those within a part ahead of it, from left to right."""
    order = []
    due = [0]
    while due:
        at = due.pop()
        order.append(at)
        due.extend(rows[at][1])
    return order[::-1]
