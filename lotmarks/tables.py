"""Tables of reads: which versions the renewings of each cell read, and the programs that have such a table."""

from lotmarks.checks import is_count, is_integer, is_list
from lotmarks.errors import BadNumber, BadTable, Ringed, TooFew
from lotmarks.programs import Program, program_by
from lotmarks.ties import first_row, followers, levels, path_between, ring_through, strict_ring, tight_ties, turned
from lotmarks.versions import first_alike, reads, wanted_versions


def is_table(web, thing):
    """Whether a thing is a table of the web."""
    if not isinstance(thing, dict) or len(thing) != len(web) or not all([key in web for key in thing]):
        return False
    if not all([is_list(thing[cell]) for cell in web]):
        return False
    return all([is_table_row(web, thing, cell, row) for cell in web for row in thing[cell]])


def is_table_row(web, table, cell, row):
    """Whether a row has a version of each source of the cell."""
    sources = web.sources(cell)
    if not is_list(row) or len(row) != len(sources):
        return False
    return all([is_count(version) and version <= len(table[source]) for source, version in zip(sources, row)])


def check_table(web, table):
    """Raise BadTable unless a thing is a table of the web."""
    if not is_table(web, table):
        raise BadTable()


def table_of(web, program):
    """The table of a program, as a dict from the cells to tuples of tuples."""
    rows = reads(web, program)
    return {cell: tuple([versions for index, told, number, versions in rows if told == cell]) for cell in web}


def renewings_of(web, table):
    """The list of the renewings of a table, in the order of the cells and their numbers."""
    return [(cell, number) for cell in web for number in range(1, len(table[cell]) + 1)]


def ties_of(web, table):
    """The ties between the renewings of a table; a tie that is of both sorts is told as a strict one."""
    found = {}
    for cell, number in renewings_of(web, table):
        if number > 1:
            found[((cell, number - 1), (cell, number))] = True
        for source, version in zip(web.sources(cell), table[cell][number - 1]):
            if version > 0:
                found[((source, version), (cell, number))] = True
            if version < len(table[source]):
                found.setdefault(((cell, number), (source, version + 1)), False)
    return found


def lots_of(web, table):
    """The dict from the renewings of a table to the least numbers of lots in which they can stand."""
    check_table(web, table)
    ties = ties_of(web, table)
    numbers = levels(renewings_of(web, table), ties)
    if numbers is None:
        raise Ringed(tuple(strict_ring(ties)))
    return numbers


def program_of(web, table):
    """The program that has a table, each renewing in the least lot in which it can stand."""
    return program_by([(renewing[0], lot) for renewing, lot in lots_of(web, table).items()])


def is_renewing_list(web, table, thing):
    """Whether a thing is a list of renewings of a table."""
    return is_list(thing) and all([is_renewing(web, table, item) for item in thing])


def is_renewing(web, table, thing):
    """Whether a thing is a renewing of a table."""
    if not is_list(thing) or len(thing) != 2 or thing[0] not in web or not is_integer(thing[1]):
        return False
    return 1 <= thing[1] <= len(table[thing[0]])


def ties_along(ties, renewings):
    """For each renewing and the next one whether their tie is a strict one, None if they are not tied."""
    told = [tuple(renewing) for renewing in renewings]
    return [ties.get(pair) for pair in zip(told, told[1:])]


def is_ring(web, table, renewings, alone=False):
    """Whether these are a ring of the table; with alone also if no tie is strict and there are unlike renewings."""
    if not is_table(web, table) or not is_renewing_list(web, table, renewings) or len(renewings) == 0:
        return False
    found = ties_along(ties_of(web, table), (*renewings, renewings[0]))
    if None in found:
        return False
    return True in found or (bool(alone) and len({tuple(renewing) for renewing in renewings}) > 1)


def fewest_lots(web, table):
    """The number of lots that the programs with this table have at least."""
    return len(program_of(web, table))


def chain(web, table):
    """A list of renewings, each tied to the next one, that shows that there are no fewer lots."""
    numbers = lots_of(web, table)
    most = max(list(numbers.values()), default=0)
    behind = followers(tight_ties(ties_of(web, table), numbers))
    ends = [renewing for renewing in numbers if numbers[renewing] == most]
    for begin in numbers:
        if numbers[begin] == 0:
            path = path_between(behind, begin, ends[0])
            if path is not None:
                return path
    return []


def is_chain(web, table, renewings):
    """The number of lots that a list of renewings shows, each tied to the next one; None if it is no such list."""
    if not is_table(web, table) or not is_renewing_list(web, table, renewings):
        return None
    found = ties_along(ties_of(web, table), renewings)
    if None in found:
        return None
    return min(len(renewings), 1 + found.count(True))


def spans(web, table, n):
    """The dict from the renewings to the pairs of the least and the greatest of n lots in which they can stand."""
    numbers = lots_of(web, table)
    if not is_count(n):
        raise BadNumber(n)
    if n < fewest_lots(web, table):
        raise TooFew(n)
    to_the_end = levels(list(numbers), turned(ties_of(web, table)))
    return {renewing: (least_lot, n - 1 - to_the_end[renewing]) for renewing, least_lot in numbers.items()}


def one_by_one(web, table):
    """The first program, by the order of the cells, that has this table and one cell in each lot."""
    numbers = lots_of(web, table)
    ties = ties_of(web, table)
    row = first_row(list(numbers), ties)
    if row is None:
        raise Ringed(tuple(ring_through(ties, [(one, other) for one, other in ties if one != other])))
    return Program([[cell] for cell, number in row])


def least(web, program):
    """The program that does the same with the fewest renewings, each in the least lot in which it can stand."""
    renewings = reads(web, program)
    first = first_alike(web, renewings)
    wanted = wanted_versions(web, renewings)
    # For each cell the versions that are kept, with their new numbers.
    kept = {cell: {0: 0} for cell in web}
    table = {cell: [] for cell in web}
    for index, cell, number, versions in renewings:
        if (cell, number) in wanted:
            alike = [(source, first[source][version]) for source, version in zip(web.sources(cell), versions)]
            table[cell].append([kept[source][version] for source, version in alike])
            kept[cell][number] = len(table[cell])
    return program_of(web, table)
