"""Races: what can come of it if workers read one by one while others write."""

from lotmarks.checks import is_list
from lotmarks.errors import BadActs, BadCells, MarkRing
from lotmarks.marks import check_marks, levels_by
from lotmarks.subsets import chosen, members, subset_of
from lotmarks.ties import first_row


def is_cell_list(web, thing):
    """Whether a thing is a list of different cells."""
    # That all are cells comes first: only then can each be a member of a set.
    return is_list(thing) and all([item in web for item in thing]) and len(set(thing)) == len(thing)


def check_race(web, cells):
    """Raise BadCells unless a thing is a list of different cells."""
    if not is_cell_list(web, cells):
        raise BadCells()


def race_arrows(web, cells):
    """The list of the arrows, in their order, that go to cells of a race."""
    return [arrow for arrow in web.arrows if arrow[1] in cells]


def race_marks(web, cells, acts):
    """The dict from the arrows to the cells of a race to the marks that acts bring about."""
    check_race(web, cells)
    wrong = first_wrong_act(web, cells, acts)
    if wrong is not None:
        raise BadActs(wrong)
    written, found = [], {}
    for act in acts:
        if act[0] == "write":
            written.append(act[1])
        else:
            found[(act[1], act[2])] = "new" if act[1] in written else "old"
    return {arrow: found[arrow] for arrow in race_arrows(web, cells)}


def first_wrong_act(web, cells, acts):
    """The index of the first thing that can't be an act where it stands, the number of acts if some lack, or None."""
    if not is_list(acts):
        return 0
    unread, unwritten = race_arrows(web, cells), list(cells)
    for index, act in enumerate(acts):
        if is_act(act, "read", 3) and (act[1], act[2]) in unread:
            unread.remove((act[1], act[2]))
        elif is_act(act, "write", 2) and act[1] in unwritten and all([act[1] != arrow[1] for arrow in unread]):
            unwritten.remove(act[1])
        else:
            return index
    return len(acts) if len(unread) + len(unwritten) > 0 else None


def is_act(thing, word, many):
    """Whether a thing is a list of so many things that begins with a word."""
    return is_list(thing) and len(thing) == many and thing[0] == word


def race_of(web, cells, told):
    """A list of acts of a race in which arrows have the told marks."""
    check_race(web, cells)
    arrows = race_arrows(web, cells)
    check_marks(arrows, told)
    new = [arrow for arrow in arrows if told.get(arrow) == "new"]
    for arrow in new:
        if arrow[0] not in cells:
            raise MarkRing((arrow,))
    numbers = levels_by(cells, {arrow: "new" for arrow in new})
    # What need not be new is read at the very beginning, when nothing is written yet.
    acts = [("read", *arrow) for arrow in arrows if arrow not in new]
    for cell in sorted(cells, key=lambda told_cell: numbers[told_cell]):
        acts += [("read", *arrow) for arrow in new if arrow[1] == cell] + [("write", cell)]
    return acts


def races(web, cells):
    """The number of the unlike markings that races of cells can bring about."""
    check_race(web, cells)
    targets = [subset_of(cells, web.targets(cell)) for cell in cells]
    found = [1]
    for subset in range(1, 1 << len(cells)):
        found.append(ringless(targets, subset, found))
    return found[-1]


def ringless(targets, subset, found):
    """The number of the sets of arrows without a ring among a subset, where found has it for all lesser numbers.

    Some cells of the subset have no arrow of such a set to them. For each choice of some of these, all arrows from them
    to the others are free; as a set of arrows is met once for each choice, choices of even size are taken off again.
    """
    total = 0
    first = subset
    while first > 0:
        rest = subset - first
        free = sum([len(members(targets[cell] & rest)) for cell in members(first)])
        ways = found[rest] << free
        total += ways if len(members(first)) & 1 == 1 else -ways
        first = (first - 1) & subset
    return total


def aside(web, cells):
    """The pair of the fewest cells that must be kept aside if a lot is done one by one, and of the cells in a row."""
    check_race(web, cells)
    lot = [cell for cell in web if cell in cells]
    subsets = sorted(range(1 << len(lot)), key=lambda subset: (len(members(subset)), members(subset)))
    rows = [(chosen(lot, subset), first_row(lot, waits(web, lot, chosen(lot, subset)))) for subset in subsets]
    # With all cells kept any row will do, so there is one.
    kept, row = [found for found in rows if found[1] is not None][0]
    return (kept, tuple(row))


def waits(web, cells, kept):
    """The ties of the cells that read one that is not kept: they are strictly ahead of it."""
    read = [cell for cell in cells if cell not in kept]
    return {(target, cell): True for cell in read for target in web.targets(cell) if target in cells}


def is_aside(web, cells, kept, row):
    """Whether cells can be done in a row if some of them are kept aside."""
    check_race(web, cells)
    if not is_cell_list(web, row) or not is_cell_list(web, kept):
        return False
    if sorted(row) != sorted(cells) or not all([cell in cells for cell in kept]):
        return False
    ahead = [(cell, row[later]) for at, cell in enumerate(row) for later in range(at + 1, len(row)) if cell not in kept]
    return all([pair not in web.arrows for pair in ahead])
