"""Versions: what each renewing reads, which versions are alike, and which renewings a program needs."""

from lotmarks.kinds import Kinds
from lotmarks.programs import check_program
from lotmarks.webs import check_cells


def reads(web, program):
    """The list of all renewings: tuples of the lot, the cell, the number, and the versions that it reads."""
    check_program(web, program)
    numbers = {cell: 0 for cell in web}
    found = []
    for index, lot in enumerate(program.lots):
        for cell in in_order(web, lot):
            versions = tuple([numbers[source] for source in web.sources_of[cell]])
            found.append((index, cell, numbers[cell] + 1, versions))
        # Counted only now: the cells of a lot read one another's versions from ahead of it.
        for cell in lot:
            numbers[cell] += 1
    return found


def in_order(web, lot):
    """The cells of a lot in the order of the web."""
    return lot if len(lot) == 1 else [cell for cell in web.cells if cell in lot]


def carried(web, program, begins, made):
    """For each cell what its last version has: begins tells it for version 0, made(cell, read) for others.

    read is the list of what those versions have that the renewing reads, in the order of the sources.
    """
    now = dict(begins)
    for lot in program.lots:
        taken = {cell: made(cell, [now[source] for source in web.sources_of[cell]]) for cell in lot}
        now.update(taken)
    return now


def kinds(web, program):
    """For each cell the list that tells, for each of its versions, the first version that is alike to it."""
    return first_alike(web, reads(web, program))


def first_alike(web, renewings):
    """What kinds tells, of the list that reads tells."""
    first = {cell: [0] for cell in web}
    last_read = {cell: None for cell in web}
    for index, cell, number, versions in renewings:
        read = [first[source][version] for source, version in zip(web.sources_of[cell], versions)]
        # What has changed never comes back, so it is enough to look at the version just ahead.
        first[cell].append(first[cell][-1] if read == last_read[cell] else number)
        last_read[cell] = read
    return first


def same(web, one, other):
    """Whether two programs do the same for all rules and beginnings."""
    check_program(web, one)
    check_program(web, other)
    told = Kinds(web, len(one) + len(other))
    return told.behind(one, told.none) == told.behind(other, told.none)


def depth(web, program, cell):
    """The greatest number of renewings, each read by the next one, up to the last version of a cell."""
    check_cells(web, (cell,))
    check_program(web, program)
    begins = {told: 0 for told in web}
    return carried(web, program, begins, lambda renewed, read: 1 + max(read, default=0))[cell]


def ways(web, program, begin, end):
    """The number of ways in which the beginning of one cell comes into the end of another one."""
    check_cells(web, (begin, end))
    check_program(web, program)
    begins = {told: 1 if told == begin else 0 for told in web}
    return carried(web, program, begins, lambda renewed, read: sum(read))[end]


def needs(web, program, cell):
    """The tuple of the cells from whose beginnings there is a way to the end of a cell."""
    return tuple([begin for begin in web if ways(web, program, begin, cell) > 0])


def wanted_versions(web, renewings):
    """A dict of True for the pairs (cell, number) of the needed versions that are alike to no earlier one."""
    first = first_alike(web, renewings)
    wanted = {(told, first[told][-1]): True for told in web}
    # Only later lots read a version, so backwards all that make it a needed one have been met when its turn comes.
    for index, cell, number, versions in reversed(renewings):
        if (cell, number) in wanted:
            for source, version in zip(web.sources_of[cell], versions):
                wanted[(source, first[source][version])] = True
    return wanted


def needed(web, program):
    """The pairs (cell, number) of the renewings that each program which does the same must do, in order."""
    renewings = reads(web, program)
    wanted = wanted_versions(web, renewings)
    return [row[1:3] for row in renewings if row[1:3] in wanted]


def idle(web, program):
    """The pairs (cell, number) of all other renewings, in order: without them the program does the same."""
    renewings = reads(web, program)
    wanted = wanted_versions(web, renewings)
    return [row[1:3] for row in renewings if row[1:3] not in wanted]
