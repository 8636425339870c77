"""Programs: lists of lots, which are done one behind another."""

from lotmarks.checks import is_count, is_list, is_name_list
from lotmarks.errors import BadNumber, BadProgram
from lotmarks.webs import check_cells


class Program:
    """Lots, each a set of cells that are renewed at once; a program never changes."""

    def __init__(self, lots):
        wrong = first_wrong_lot(lots)
        if wrong is not None:
            raise BadProgram(wrong)
        self.lots = tuple([tuple(sorted(lot)) for lot in lots])

    def times(self, n):
        """The program that does this one n times."""
        if not is_count(n):
            raise BadNumber(n)
        return Program(self.lots * n)

    def renewings(self):
        """The number of renewings."""
        return sum([len(lot) for lot in self.lots])

    def renewed(self):
        """The ascending tuple of the cells that are renewed."""
        return tuple(sorted({cell for lot in self.lots for cell in lot}))

    def __add__(self, other):
        if not isinstance(other, Program):
            return NotImplemented
        return Program(self.lots + other.lots)

    def __len__(self):
        return len(self.lots)

    def __iter__(self):
        return iter(self.lots)

    def __eq__(self, other):
        return isinstance(other, Program) and self.lots == other.lots


def first_wrong_lot(lots):
    """The index of the first thing that can't be a lot, 0 if there is no list of lots, None if all can be."""
    if not is_list(lots):
        return 0
    for index, lot in enumerate(lots):
        if not is_name_list(lot) or len(lot) == 0:
            return index
    return None


def check_program(web, program):
    """Raise UnknownCell for the first cell of a program that the web lacks."""
    for lot in program:
        check_cells(web, lot)


def is_sweep(web, program):
    """Whether each cell of the web stands in just one lot of the program."""
    check_program(web, program)
    return program.renewings() == len(web) and len(program.renewed()) == len(web)
