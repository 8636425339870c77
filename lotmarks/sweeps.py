"""Sweeps: which arrows bring new worths in them, which sweeps have told marks, and how many unlike ones there are."""

from lotmarks.checks import is_count
from lotmarks.errors import NoSuch, NotSweep, Unlike
from lotmarks.leasts import LeastSweeps
from lotmarks.marks import check_marks, levels_by, ties_of_marks
from lotmarks.programs import is_sweep, program_by
from lotmarks.ties import levels


def marks(web, program):
    """The dict from the arrows to their marks in a sweep."""
    if not is_sweep(web, program):
        raise NotSweep()
    lots = {cell: index for index, lot in enumerate(program) for cell in lot}
    return {(source, target): "new" if lots[source] < lots[target] else "old" for source, target in web.arrows}


def sweep_of(web, told):
    """The least sweep with told marks."""
    check_marks(web.arrows, told)
    return program_by(list(levels_by(web.cells, told).items()))


def least_sweeps(web, told):
    """The least sweeps with told marks, all of them if none are told."""
    if told is None:
        return LeastSweeps(web, {})
    check_marks(web.arrows, told)
    return LeastSweeps(web, told)


def how_many(web, told=None):
    """The number of the least sweeps with told marks."""
    return least_sweeps(web, told).many()


def sweep_number(web, k, told=None):
    """The least sweep with a number, from 0 on, among those with told marks."""
    found = least_sweeps(web, told)
    if not is_count(k) or k >= found.many():
        raise NoSuch(k)
    return found.numbered(k)


def number_of(web, program, told=None):
    """The number, among the least sweeps with told marks, of the one that does the same as a sweep."""
    own = marks(web, program)
    found = least_sweeps(web, told)
    if told is not None and any([own[arrow] != mark for arrow, mark in told.items()]):
        raise Unlike()
    return found.place(sweep_of(web, own))


def sure(web, told):
    """The dict from the arrows that have one mark in all sweeps with the told marks to this mark."""
    check_marks(web.arrows, told)
    levels_by(web.cells, told)
    found = {}
    for arrow in web.arrows:
        possible = [told[arrow]] if arrow in told else possible_marks(web, told, arrow)
        if len(possible) == 1:
            found[arrow] = possible[0]
    return found


def possible_marks(web, told, arrow):
    """The list of the marks that an arrow can have beside the told ones."""
    ties = {mark: ties_of_marks(with_mark(told, arrow, mark)) for mark in ("new", "old")}
    return [mark for mark in ties if levels(web.cells, ties[mark]) is not None]


def with_mark(told, arrow, mark):
    """The told marks, and one more."""
    found = {other: told[other] for other in told}
    found[arrow] = mark
    return found
