"""Partings: rules and a beginning that show that two programs do not do the same."""

from lotmarks.programs import is_sweep
from lotmarks.rules import Rules
from lotmarks.versions import carried, reads, same


class Parting:
    """Rules and a beginning with which a cell is not worth the same behind two programs."""

    def __init__(self, rules, beginning, cell):
        self.rules = rules
        self.beginning = dict(beginning)
        self.cell = cell


def parting(web, one, other):
    """A parting of two programs, or None if they do the same."""
    if same(web, one, other):
        return None
    if is_sweep(web, one) and is_sweep(web, other):
        return sweep_parting(web, one, other)
    return kind_parting(web, one, other)


def kind_parting(web, one, other):
    """A parting of two programs that do not do the same: by its rules each version is worth the number of its kind."""
    known = {cell: {} for cell in web}
    begins = {cell: 0 for cell in web}

    def kind_of(cell, read):
        """The kind of a renewing; 0 is that of version 0, which no renewing is alike to."""
        return known[cell].setdefault(tuple(read), len(known[cell]) + 1)

    ends = carried(web, one, begins, kind_of)
    others = carried(web, other, begins, kind_of)
    tables = {cell: list(known[cell].items()) for cell in web}
    worths = 1 + max([len(known[cell]) for cell in web])
    return Parting(Rules(web, worths, tables), begins, [cell for cell in web if ends[cell] != others[cell]][0])


def sweep_parting(web, one, other):
    """A parting, with two worths, of two sweeps that do not do the same."""
    source, target = unlike_arrow(web, one, other)
    beginning = {cell: 0 for cell in web}
    # The source comes to be worth 1, and all but it and the target stay 0. So the target comes to be worth 1 just
    # behind the sweep in which it reads the source anew.
    quiet = tuple([0 for told in web.sources(source)])
    anew = tuple([1 if told == source else 0 for told in web.sources(target)])
    return Parting(Rules(web, 2, {source: [(quiet, 1)], target: [(anew, 1)]}), beginning, target)


def unlike_arrow(web, one, other):
    """The first arrow whose source is read anew in just one of two sweeps that do not do the same."""
    versions = sweep_versions(web, one)
    others = sweep_versions(web, other)
    return [arrow for arrow in web.arrows if versions[arrow] != others[arrow]][0]


def sweep_versions(web, sweep):
    """For each arrow the version that is read along it in a sweep: 1 if its source is renewed ahead, else 0."""
    found = {}
    for index, cell, number, versions in reads(web, sweep):
        for source, version in zip(web.sources(cell), versions):
            found[(source, cell)] = version
    return found
