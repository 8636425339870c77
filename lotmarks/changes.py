"""Changes: lots that are joined, swapped or made smaller, and the sweeps that lead from one beginning to an end."""

from lotmarks.checks import is_count
from lotmarks.errors import NoLot, UnknownCell
from lotmarks.leasts import LeastSweeps
from lotmarks.programs import Program, check_program
from lotmarks.rules import check_beginning
from lotmarks.versions import same


def check_lot(program, i, more):
    """Raise NoLot unless there is a lot with this number, and so many more behind it."""
    if not is_count(i) or i + more >= len(program):
        raise NoLot(i)


def if_same(web, program, lots):
    """The program of some lots if it does the same as a program, otherwise None."""
    changed = Program(lots)
    return changed if same(web, program, changed) else None


def joined(web, program, i):
    """The program with the lots i and i + 1 in one, or None if it does not do the same."""
    check_program(web, program)
    check_lot(program, i, 1)
    lots = program.lots
    if any([cell in lots[i + 1] for cell in lots[i]]):
        return None
    return if_same(web, program, lots[:i] + (lots[i] + lots[i + 1],) + lots[i + 2:])


def swapped(web, program, i):
    """The program with the lots i and i + 1 exchanged, or None if it does not do the same."""
    check_program(web, program)
    check_lot(program, i, 1)
    lots = program.lots
    return if_same(web, program, lots[:i] + (lots[i + 1], lots[i]) + lots[i + 2:])


def dropped(web, program, i, cell):
    """The program without a cell of lot i, or None if it does not do the same."""
    check_program(web, program)
    check_lot(program, i, 0)
    lots = program.lots
    if cell not in lots[i]:
        raise UnknownCell(cell)
    rest = tuple([other for other in lots[i] if other != cell])
    kept = (rest,) if len(rest) > 0 else ()
    return if_same(web, program, lots[:i] + kept + lots[i + 1:])


def sweeps_seen(rules, beginning, end):
    """The list of the least sweeps, in their order, that lead from a beginning to an end by told rules."""
    check_beginning(rules, beginning)
    check_beginning(rules, end)
    begins = {cell: beginning[cell] for cell in rules.web}
    sweeps = [Program(lots) for lots in LeastSweeps(rules.web, {}).all_behind()]
    return [sweep for sweep in sweeps if rules.behind(sweep, begins) == end]
