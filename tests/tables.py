"""Tables of reads by the words of the document, for the tests: ties, numbers of lots, and all small tables."""

import itertools

from lotmarks.programs import Program
from lotmarks.webs import Web

# Webs with a few cells, in orders that are not that of the letters.
PAIR = Web([("b", ["a"]), ("a", ["b"])])
OWN = Web([("b", ["a", "b"]), ("a", ["a"])])
DRY = Web([("c", ["a", "b"]), ("a", []), ("b", ["c"])])
ROUND = Web([("c", ["b"]), ("b", ["a"]), ("a", ["c"])])
WEBS = [PAIR, OWN, DRY, ROUND, Web([("a", ["a"])]), Web([("a", [])])]


def renewings(web, table):
    return [(cell, number + 1) for cell in web.cells for number in range(len(table[cell]))]


def sorts(web, table, one, other):
    """The sorts of ties from one renewing to another one."""
    found = set()
    if one[0] == other[0] and one[1] + 1 == other[1]:
        found.add("strict")
    if (one[0], one[1]) in zip(web.sources(other[0]), table[other[0]][other[1] - 1]):
        found.add("strict")
    if (other[0], other[1] - 1) in zip(web.sources(one[0]), table[one[0]][one[1] - 1]):
        found.add("not behind")
    return found


def ring_by_words(web, table, ring, alone=False):
    """Whether a list of pairs is a ring of a table."""
    ties = [sorts(web, table, ring[at - 1], ring[at]) for at in range(len(ring))]
    if not ring or not all(ties):
        return False
    return any("strict" in tie for tie in ties) or (alone and len(set(ring)) > 1)


def numbers_by_words(web, table, most, alone=False):
    """All dicts of numbers of lots, from 0 up to most, without it, that the ties of a table allow; with alone, no two
    renewings have the same number."""
    told = renewings(web, table)
    ties = [(one, other, sorts(web, table, one, other)) for one in told for other in told]
    for numbers in itertools.product(range(most), repeat=len(told)):
        lots = dict(zip(told, numbers))
        if alone and len(set(numbers)) < len(numbers):
            continue
        if all(lots[one] < lots[other] for one, other, tie in ties if "strict" in tie):
            if all(lots[one] <= lots[other] for one, other, tie in ties if "not behind" in tie):
                yield lots


def program_by_words(lots):
    """The program for numbers of lots, without the lots that stay empty."""
    rows = [sorted(cell for (cell, _), lot in lots.items() if lot == at) for at in range(1 + max(lots.values(), default=-1))]
    return Program([row for row in rows if row])


def all_tables(web, most):
    """All tables of a web with up to most renewings of each cell."""
    for counts in itertools.product(range(most + 1), repeat=len(web)):
        many = dict(zip(web.cells, counts))
        columns = []
        for cell in web.cells:
            rows = list(itertools.product(*(range(many[source] + 1) for source in web.sources(cell))))
            columns.append(list(itertools.product(rows, repeat=many[cell])))
        for told in itertools.product(*columns):
            yield dict(zip(web.cells, told))


def some_tables(step=7):
    """Pairs of webs and small tables of them: all of those with few renewings, and some of the others."""
    for web in WEBS:
        most = 3 if len(web) == 1 else 2
        tables = list(all_tables(web, most))
        yield from ((web, table) for at, table in enumerate(tables) if len(tables) < 200 or at % step == 0)
