"""Programs: lists of lots, which are done one behind another."""

from lotmarks.checks import is_count, is_list, is_name, is_name_list
from lotmarks.errors import BadNumber, BadProgram
from lotmarks.webs import check_cells


class Program:
    """Lots, each a set of cells that are renewed at once; a program never changes."""

    def __init__(self, lots):
        if not is_list(lots):
            raise BadProgram(0)
        found = ascending_lots(lots)
        # Programs have many lots and few unlike ones, so whatever is asked of each lot is asked of the unlike ones.
        self.unlike_lots = tuple(sorted(set(found)))
        wrong = [lot for lot in self.unlike_lots if not is_lot(lot)]
        if len(wrong) > 0:
            raise BadProgram([index for index, lot in enumerate(found) if lot in wrong][0])
        self.lots = tuple(found)

    def times(self, n):
        """The program that does this one n times."""
        if not is_count(n):
            raise BadNumber(n)
        return Program(self.lots * n)

    def renewings(self):
        """The number of renewings."""
        return sum([len(lot) for lot in self.lots])

    def renewed(self):
        """The ascending tuple of the cells that are renewed."""
        return tuple(sorted({cell for lot in self.unlike_lots for cell in lot}))

    def __add__(self, other):
        if not isinstance(other, Program):
            return NotImplemented
        return Program(self.lots + other.lots)

    def __len__(self):
        return len(self.lots)

    def __iter__(self):
        return iter(self.lots)

    def __eq__(self, other):
        return isinstance(other, Program) and self.lots == other.lots


def ascending_lots(things):
    """The list of the ascending tuples of what things list; the empty tuple for each that is no list of texts."""
    # Most lots have one cell: for these there is no call, as calls are what takes the time here.
    return [
        (thing[0],) if isinstance(thing, (list, tuple)) and len(thing) == 1 and isinstance(thing[0], str)
        else ascending_texts(thing)
        for thing in things
    ]


def ascending_texts(thing):
    """The ascending tuple of the texts that a thing lists; the empty tuple if it is no list of texts."""
    if not is_list(thing) or not all([isinstance(item, str) for item in thing]):
        return ()
    return tuple(sorted(thing))


def is_lot(texts):
    """Whether a tuple of texts is one of one or more different names."""
    return is_name(texts[0]) if len(texts) == 1 else len(texts) > 0 and is_name_list(texts)


def program_by(placed):
    """The program for a list of pairs of a cell and the number of its lot; no lot between them is left empty."""
    last = max([lot for cell, lot in placed], default=-1)
    lots = [[] for number in range(last + 1)]
    for cell, lot in placed:
        lots[lot].append(cell)
    return Program(lots)


def check_program(web, program):
    """Raise UnknownCell for the first cell of a program that the web lacks."""
    if all([cell in web.sources_of for lot in program.unlike_lots for cell in lot]):
        return
    for lot in program.lots:
        check_cells(web, lot)


def is_sweep(web, program):
    """Whether each cell of the web stands in just one lot of the program."""
    check_program(web, program)
    return program.renewings() == len(web) and len(program.renewed()) == len(web)
