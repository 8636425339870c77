"""Kinds: numbers for the versions of cells, of which alike ones have the same, however many programs they come from."""


class Kinds:
    """Tells the kinds of versions in several programs; version 0 of each cell is of kind 0, and no other one is."""

    def __init__(self, web, lots):
        """lots is the number of lots, of all programs together, that are looked at."""
        self.sources_of = web.sources_of
        self.none = {cell: 0 for cell in web}
        self.known = {cell: {} for cell in web}
        # Each new kind has the number of the lot in which it is met first, so all kinds are less than the base.
        self.base = lots + 1
        self.met = 0

    def behind(self, program, ahead):
        """The dict of the kinds of all cells behind a program, from those ahead of it."""
        sources_of, known, base = self.sources_of, self.known, self.base
        now = dict(ahead)
        for fresh, lot in enumerate(program.lots, start=self.met + 1):
            # Most lots have one cell, and many cells one source: there is no call for these, as calls take most time.
            if len(lot) == 1:
                cell = lot[0]
                sources = sources_of[cell]
                read = now[sources[0]] if len(sources) == 1 else read_number(sources, now, base)
                now[cell] = known[cell].setdefault(read, fresh)
            else:
                # All cells of a lot read before any of them takes its new version.
                reads = {cell: read_number(sources_of[cell], now, base) for cell in lot}
                now.update({cell: known[cell].setdefault(reads[cell], fresh) for cell in lot})
        self.met += len(program.lots)
        return now


def read_number(sources, now, base):
    """The kinds that are read, as the digits of one number: it is looked up faster than a tuple of them."""
    read = 0
    for source in sources:
        read = read * base + now[source]
    return read
