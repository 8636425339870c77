"""Webs: cells, and the sources that each of them reads."""

from lotmarks.checks import is_list, is_name, is_name_list
from lotmarks.errors import BadWeb, UnknownCell


class Web:
    """Cells in an order, with the sources of each; a web never changes."""

    def __init__(self, rows):
        check_rows(rows)
        self.cells = tuple([row[0] for row in rows])
        self.sources_of = {cell: tuple(told) for cell, told in rows}
        self.arrows = tuple([(source, cell) for cell in self.cells for source in self.sources_of[cell]])
        self.targets_of = {cell: self.cells_with_source(cell) for cell in self.cells}

    def cells_with_source(self, source):
        """The cells, in their order, that have this source."""
        return tuple([cell for cell in self.cells if source in self.sources_of[cell]])

    def sources(self, cell):
        """The tuple of the sources of a cell, in the order in which its rule takes them."""
        check_cells(self, (cell,))
        return self.sources_of[cell]

    def targets(self, cell):
        """The tuple of the cells, in their order, of which this one is a source."""
        check_cells(self, (cell,))
        return self.targets_of[cell]

    def __contains__(self, x):
        # Not every object can be a key of a dict, so only texts are looked up.
        return isinstance(x, str) and x in self.sources_of

    def __len__(self):
        return len(self.cells)

    def __iter__(self):
        return iter(self.cells)

    def __eq__(self, other):
        return isinstance(other, Web) and self.cells == other.cells and self.sources_of == other.sources_of


def check_rows(rows):
    """Raise BadWeb or UnknownCell unless these are the rows of a web."""
    wrong = first_wrong_row(rows)
    if wrong is not None:
        raise BadWeb(wrong)
    cells = [row[0] for row in rows]
    for row in rows:
        for source in row[1]:
            if source not in cells:
                raise UnknownCell(source)


def first_wrong_row(rows):
    """The index of the first thing that can't be a row of a web, 0 if there are no rows, None if all can be."""
    if not is_list(rows) or len(rows) == 0:
        return 0
    cells = []
    for index, row in enumerate(rows):
        if not is_row(row) or row[0] in cells:
            return index
        cells.append(row[0])
    return None


def is_row(thing):
    """Whether a thing is a pair of a name and a list of different names."""
    return is_list(thing) and len(thing) == 2 and is_name(thing[0]) and is_name_list(thing[1])


def check_cells(web, things):
    """Raise UnknownCell for the first of these things that is no cell of the web."""
    for thing in things:
        if thing not in web:
            raise UnknownCell(thing)


def ring(web, cells):
    """A shortest ring of arrows among the told cells, its first cell once more at its end, or None."""
    check_cells(web, cells)
    shortest = None
    for cell in cells:
        found = ring_from(web, cells, cell)
        if found is not None and (shortest is None or len(found) < len(shortest)):
            shortest = found
    return shortest


def ring_from(web, cells, begin):
    """A shortest ring from one cell through told ones, or None."""
    paths = [[begin]]
    # All paths are lengthened together, so the first one that comes back is a shortest one. Such a one has no cell
    # twice, so none has more cells than the web.
    while len(paths) > 0 and len(paths[0]) <= len(web):
        for path in paths:
            if begin in web.targets(path[-1]):
                return path + [begin]
        paths = lengthened(web, cells, paths)
    return None


def lengthened(web, cells, paths):
    """The paths one told cell longer: of those that come to the same cell just one."""
    longer = {}
    for path in paths:
        for target in web.targets(path[-1]):
            if target in cells:
                longer[target] = path + [target]
    return list(longer.values())
