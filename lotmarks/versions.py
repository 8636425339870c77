"""Versions: what each renewing reads, which versions are alike, and which renewings a program needs."""

from lotmarks.programs import check_program
from lotmarks.webs import check_cells


def reads(web, program):
    """The list of all renewings: tuples of the lot, the cell, the number, and the versions that it reads."""
    check_program(web, program)
    numbers = {cell: 0 for cell in web}
    found = []
    for index, lot in enumerate(program):
        for cell in web:
            if cell in lot:
                versions = tuple([numbers[source] for source in web.sources(cell)])
                found.append((index, cell, numbers[cell] + 1, versions))
        # Counted only now: the cells of a lot read one another's versions from ahead of it.
        for cell in lot:
            numbers[cell] += 1
    return found


def carried(web, program, begins, made):
    """For each cell the list of what its versions have: begins tells it for version 0, made(cell, read) for others.

    read is the list of what those versions have that the renewing reads, in the order of the sources.
    """
    lists = {told: [begins[told]] for told in web}
    for index, cell, number, versions in reads(web, program):
        read = [lists[source][version] for source, version in zip(web.sources(cell), versions)]
        lists[cell].append(made(cell, read))
    return lists


def no_kinds(web):
    """What kind_lists knows before it has looked at a program."""
    return {cell: {} for cell in web}


def kind_lists(web, program, known):
    """For each cell the list of the kinds of its versions, as numbers: just alike versions have the same one.

    known has, for each cell, the kind of a renewing for the kinds that it reads. New kinds are put into it, so that
    programs for which the same known is passed can be compared.
    """
    def kind_of(cell, read):
        """The kind of a renewing; 0 is that of version 0, which no renewing is alike to."""
        return known[cell].setdefault(tuple(read), len(known[cell]) + 1)

    return carried(web, program, {told: 0 for told in web}, kind_of)


def last_kinds(web, program, known):
    """For each cell the kind of its last version; known is that of kind_lists."""
    return {cell: row[-1] for cell, row in kind_lists(web, program, known).items()}


def kinds(web, program):
    """For each cell the list that tells, for each of its versions, the first version that is alike to it."""
    lists = kind_lists(web, program, no_kinds(web))
    return {cell: [row.index(kind) for kind in row] for cell, row in lists.items()}


def same(web, one, other):
    """Whether two programs do the same for all rules and beginnings."""
    known = no_kinds(web)
    return last_kinds(web, one, known) == last_kinds(web, other, known)


def depth(web, program, cell):
    """The greatest number of renewings, each read by the next one, up to the last version of a cell."""
    check_cells(web, (cell,))
    begins = {told: 0 for told in web}
    return carried(web, program, begins, lambda renewed, read: 1 + max(read, default=0))[cell][-1]


def ways(web, program, begin, end):
    """The number of ways in which the beginning of one cell comes into the end of another one."""
    check_cells(web, (begin, end))
    begins = {told: 1 if told == begin else 0 for told in web}
    return carried(web, program, begins, lambda renewed, read: sum(read))[end][-1]


def needs(web, program, cell):
    """The tuple of the cells from whose beginnings there is a way to the end of a cell."""
    return tuple([begin for begin in web if ways(web, program, begin, cell) > 0])


def wanted_versions(web, program):
    """A dict of True for the pairs (cell, number) of the needed versions that are alike to no earlier one."""
    first = kinds(web, program)
    wanted = {(told, first[told][-1]): True for told in web}
    # Only later lots read a version, so backwards all that make it a needed one have been met when its turn comes.
    for index, cell, number, versions in reversed(reads(web, program)):
        if (cell, number) in wanted:
            for source, version in zip(web.sources(cell), versions):
                wanted[(source, first[source][version])] = True
    return wanted


def needed(web, program):
    """The pairs (cell, number) of the renewings that each program which does the same must do, in order."""
    wanted = wanted_versions(web, program)
    return [row[1:3] for row in reads(web, program) if row[1:3] in wanted]


def idle(web, program):
    """The pairs (cell, number) of all other renewings, in order: without them the program does the same."""
    wanted = wanted_versions(web, program)
    return [row[1:3] for row in reads(web, program) if row[1:3] not in wanted]
