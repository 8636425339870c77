"""Least sweeps: one for all sweeps that do the same, each cell in the least lot that its marks allow."""

from lotmarks.programs import Program
from lotmarks.subsets import chosen, members, subset_of, unions


class LeastSweeps:
    """The least sweeps of a web with told marks, ordered as lists of lots, lots as lists of the numbers of cells.

    A lot is told as a subset of the numbers of the cells. Which lots may stand behind others hangs only on which cells
    are done, and on the last lot: so that much tells how many sweeps there are that begin alike.
    """

    def __init__(self, web, told):
        cells = web.cells
        self.cells = cells
        self.whole = (1 << len(cells)) - 1
        self.subsets = sorted(range(1, self.whole + 1), key=members)
        # What these have for a subset is the union of what its cells read, are read by, and so on.
        self.read_cells = unions([subset_of(cells, web.sources(cell)) for cell in cells])
        self.reading_cells = unions([subset_of(cells, web.targets(cell)) for cell in cells])
        news = [arrow for arrow in told if told[arrow] == "new"]
        olds = [arrow for arrow in told if told[arrow] == "old"]
        self.new_sources = unions([subset_of(cells, [one for one, other in news if other == cell]) for cell in cells])
        self.old_targets = unions([subset_of(cells, [other for one, other in olds if one == cell]) for cell in cells])
        self.counts = {}

    def next_lots(self, done, last):
        """The list of the lots that may stand behind the last lot, where some cells are done, in their order."""
        free = [lot for lot in self.subsets if (lot & done) == 0 and self.has_marks(done, lot)]
        return free if done == 0 else [lot for lot in free if self.is_held_back(last, lot)]

    def has_marks(self, done, lot):
        """Whether a lot reads anew what is done only, and is read as it was by what is done or in the lot only."""
        ahead = done | lot
        return (self.new_sources[lot] | done) == done and (self.old_targets[lot] | ahead) == ahead

    def is_held_back(self, last, lot):
        """Whether no cell of a lot could stand in the last one with the same marks."""
        # A cell is held back by a source in the last lot, or by a cell that is held back and reads it as it was.
        held = self.reading_cells[last] & lot
        more = held | (self.read_cells[held] & lot)
        while more != held:
            held = more
            more = held | (self.read_cells[held] & lot)
        return held == lot

    def many(self, done=0, last=0):
        """The number of the least sweeps that go on in this way."""
        if done == self.whole:
            return 1
        if (done, last) not in self.counts:
            counts = [self.many(done | lot, lot) for lot in self.next_lots(done, last)]
            self.counts[(done, last)] = sum(counts)
        return self.counts[(done, last)]

    def numbered(self, k):
        """The least sweep with a number, which is less than there are."""
        done = last = ahead = 0
        lots = []
        while done != self.whole:
            for lot in self.next_lots(done, last):
                many = self.many(done | lot, lot)
                if k < ahead + many:
                    break
                ahead += many
            lots.append(chosen(self.cells, lot))
            done, last = done | lot, lot
        return Program(lots)

    def place(self, sweep):
        """The number of one of the least sweeps."""
        done = last = ahead = 0
        for cells in sweep.lots:
            told = subset_of(self.cells, cells)
            lots = self.next_lots(done, last)
            ahead += sum([self.many(done | lot, lot) for lot in lots[:lots.index(told)]])
            done, last = done | told, told
        return ahead

    def all_behind(self, done=0, last=0):
        """The list of the lists of lots, as tuples of cells, that complete the least sweeps, in their order."""
        if done == self.whole:
            return [[]]
        lots = self.next_lots(done, last)
        return [[chosen(self.cells, lot)] + more for lot in lots for more in self.all_behind(done | lot, lot)]
