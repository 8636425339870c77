"""Ties: what is to have a lesser number than something else, or no greater one.

Ties are told by a dict from pairs (one, other): True if one is to have a lesser number than other (it is strictly
ahead), False if it is to have no greater one (it is not behind).
"""


def levels(things, ties):
    """The dict of the least numbers, from 0 on, that things can have by their ties; None if they can have none."""
    found = {thing: 0 for thing in things}
    changed = True
    while changed:
        changed = False
        for (one, other), strict in ties.items():
            least = found[one] + 1 if strict else found[one]
            # As many numbers as things are enough for all; with a ring of ties, no number is.
            if least == len(found):
                return None
            if least > found[other]:
                found[other] = least
                changed = True
    return found


def turned(ties):
    """The same ties, seen from the other end."""
    return {(other, one): strict for (one, other), strict in ties.items()}


def tight_ties(ties, numbers):
    """Those ties of which neither end could have another number while the other end keeps its own."""
    return {
        (one, other): strict for (one, other), strict in ties.items()
        if numbers[other] == (numbers[one] + 1 if strict else numbers[one])
    }


def followers(pairs):
    """The dict from the first ones of pairs to the lists of what stands beside them."""
    found = {}
    for one, other in pairs:
        found.setdefault(one, []).append(other)
    return found


def path_between(behind, begin, end):
    """A shortest list of things from begin to end, where behind tells the followers of each; None if there is none."""
    paths = {begin: [begin]}
    fresh = [begin]
    while len(fresh) > 0 and end not in paths:
        longer = {other: paths[one] + [other] for one in fresh for other in behind.get(one, []) if other not in paths}
        paths.update(longer)
        fresh = list(longer)
    return paths.get(end)


def ring_through(ties, pairs):
    """A list of things, each tied to the next one and the last to the first by one of these pairs; None if none is."""
    behind = followers(ties)
    for one, other in pairs:
        path = path_between(behind, other, one)
        if path is not None:
            return path
    return None


def strict_ring(ties):
    """A list of things, each tied to the next one and the last one strictly ahead of the first; None if none is."""
    return ring_through(ties, [pair for pair, strict in ties.items() if strict])


def first_row(things, ties):
    """The first list of all things, by the order in which they are told, in which none stands ahead of one tied to it.

    None if there is none; ties of things to themselves don't count.
    """
    ahead = followers([(other, one) for one, other in ties if one != other])
    row, waiting = [], list(things)
    while len(waiting) > 0:
        free = [thing for thing in waiting if all([one in row for one in ahead.get(thing, [])])]
        if len(free) == 0:
            return None
        row.append(free[0])
        waiting.remove(free[0])
    return row
