"""Shapes: how the parts of a term stand in one another, as their words alone tell it."""

# For each word, of each of its parts in order, whether it is a box.
BOXES = {
    "num": (),
    "input": (),
    "name": (),
    "fn": (False,),
    "call": (False, True),
    "let": (True, False),
    "rec": (True,),
    "op": (False, True),
    "if": (False, True, True),
}


def shapes(words):
    """A tuple (parts, above, level) for each part, of parts with these words in reading order, or None where
    these aren't the words of just one term's parts."""
    aboves = []
    insides = []
    due = [(None, 0)]
    for at, word in enumerate(words):
        if not due:
            return None
        above, level = due.pop()
        aboves.append((above, level))
        insides.append([])
        if above is not None:
            insides[above].append(at)
        # The last one put there is the next one taken, so the first part goes last.
        for boxed in BOXES[word][::-1]:
            due.append((at, level + 1 if boxed else level))
    if due:
        return None
    return [(tuple(inside), above, level) for inside, (above, level) in zip(insides, aboves)]


def insides_first(shaped):
    """The numbers of all parts of these shapes, those within a part ahead of it, from left to right."""
    order = []
    due = [0]
    while due:
        at = due.pop()
        order.append(at)
        due.extend(shaped[at][0])
    return order[::-1]
