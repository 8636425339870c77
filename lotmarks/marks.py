"""Marks: whether arrows bring new worths or old ones, and what such marks ask of the order of the cells."""

from lotmarks.errors import BadMarks, MarkRing
from lotmarks.ties import levels, strict_ring


def check_marks(arrows, told):
    """Raise BadMarks unless marks are told for some of these arrows, and for nothing else."""
    if not isinstance(told, dict) or not all([is_mark(told[key]) and key in arrows for key in told]):
        raise BadMarks()


def is_mark(thing):
    """Whether a thing is a mark."""
    return thing in ("new", "old")


def ties_of_marks(told):
    """The ties of cells: a new arrow's source is strictly ahead of its target, an old one's target not behind it."""
    found = {}
    for (source, target), mark in told.items():
        if mark == "new":
            found[(source, target)] = True
        else:
            found.setdefault((target, source), False)
    return found


def levels_by(cells, told):
    """The dict of the least numbers that cells can have with told marks; MarkRing if they can have none."""
    ties = ties_of_marks(told)
    numbers = levels(cells, ties)
    if numbers is None:
        raise MarkRing(ring_arrows(ties))
    return numbers


def ring_arrows(ties):
    """The arrows, a new one among them, that go round if the old ones are turned."""
    cells = strict_ring(ties)
    steps = list(zip([cells[-1]] + cells, cells))
    return tuple([(one, other) if ties[(one, other)] else (other, one) for one, other in steps])
