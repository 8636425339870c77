"""Told rules: what the rule of each cell tells, and what programs do by such rules."""

from lotmarks.checks import is_count, is_list, is_worth
from lotmarks.errors import BadNumber, BadRules, BadWorth
from lotmarks.programs import check_program
from lotmarks.versions import carried
from lotmarks.webs import check_cells


class Rules:
    """What the rule of each cell of a web tells for the worths that it reads; rules never change."""

    def __init__(self, web, worths, tables):
        if not is_count(worths) or worths == 0:
            raise BadNumber(worths)
        check_tables(web, worths, tables)
        self.web = web
        self.worths = worths
        self.told = {cell: told_worths(tables[cell]) if cell in tables else {} for cell in web}

    def table(self, cell):
        """The ascending list of the pairs (read, worth) of a cell whose worth is not 0."""
        check_cells(self.web, (cell,))
        return sorted(self.told[cell].items())

    def tells(self, cell, read):
        """The worth that the rule of a cell tells for worths of its sources."""
        check_cells(self.web, (cell,))
        if not is_read(read, len(self.web.sources(cell)), self.worths):
            raise BadWorth(cell)
        return self.told[cell].get(tuple(read), 0)

    def tells_amid(self, cell, amid):
        """The worth that the rule of a cell tells amid worths of all cells."""
        return self.told[cell].get(tuple([amid[source] for source in self.web.sources(cell)]), 0)

    def run(self, program, beginning):
        """The dict of what the cells are worth behind a program."""
        check_program(self.web, program)
        check_beginning(self, beginning)
        return self.behind(program, {cell: beginning[cell] for cell in self.web})

    def behind(self, program, ahead):
        """The dict of what the cells are worth behind a program that is known to the web, from those ahead of it."""
        told = self.told
        return carried(self.web, program, ahead, lambda cell, read: told[cell].get(tuple(read), 0))

    def __eq__(self, other):
        return (
            isinstance(other, Rules) and self.web == other.web and self.worths == other.worths
            and self.told == other.told
        )


def check_tables(web, worths, tables):
    """Raise UnknownCell or BadRules unless each key is a cell and each table one of its rule."""
    check_cells(web, tables)
    for cell in web:
        if cell in tables and not is_rule_table(tables[cell], len(web.sources(cell)), worths):
            raise BadRules(cell)


def is_rule_table(thing, many, worths):
    """Whether a thing is a list of pairs (read, worth) with so many worths in each read, and no read twice."""
    # That all are pairs comes first: only then can each read be a member of a set.
    if not is_list(thing) or not all([is_rule_pair(item, many, worths) for item in thing]):
        return False
    return len({tuple(item[0]) for item in thing}) == len(thing)


def is_rule_pair(thing, many, worths):
    """Whether a thing is a pair of a read with so many worths and of a worth."""
    return is_list(thing) and len(thing) == 2 and is_read(thing[0], many, worths) and is_worth(thing[1], worths)


def is_read(thing, many, worths):
    """Whether a thing is a tuple of so many worths, or a list in the place of one."""
    return is_list(thing) and len(thing) == many and all([is_worth(item, worths) for item in thing])


def told_worths(pairs):
    """The dict from the reads to their worths, without those whose worth is 0: they tell what all others do."""
    return {tuple(read): worth for read, worth in pairs if worth != 0}


def check_beginning(rules, beginning):
    """Raise UnknownCell or BadWorth unless the keys are cells, and each cell has a worth."""
    check_cells(rules.web, beginning)
    for cell in rules.web:
        if cell not in beginning or not is_worth(beginning[cell], rules.worths):
            raise BadWorth(cell)


def all_beginnings(rules):
    """The list of all beginnings, ascending by the worths in the order of the cells."""
    found = [{}]
    for cell in rules.web:
        found = [{**shorter, cell: worth} for shorter in found for worth in range(rules.worths)]
    return found


def rests(rules):
    """The list of the beginnings, in order, at which each rule tells what its cell is worth."""
    return [beginning for beginning in all_beginnings(rules) if is_rest(rules, beginning)]


def is_rest(rules, beginning):
    """Whether each rule tells what its cell is worth."""
    return all([rules.tells_amid(cell, beginning) == beginning[cell] for cell in rules.web])


def first_unlike(rules, one, other):
    """The first beginning with which two programs do not come to the same, or None."""
    check_program(rules.web, one)
    check_program(rules.web, other)
    for beginning in all_beginnings(rules):
        if rules.behind(one, beginning) != rules.behind(other, beginning):
            return beginning
    return None


def sinks(rules, program):
    """The list of the rounds of beginnings in which one ends up when a program is done again and again."""
    check_program(rules.web, program)
    beginnings = all_beginnings(rules)
    places = {tuple(beginning.values()): at for at, beginning in enumerate(beginnings)}
    leads = [places[tuple(rules.behind(program, beginning).values())] for beginning in beginnings]
    rounds = [round_from(leads, begin) for begin in range(len(beginnings))]
    return [[beginnings[at] for at in met] for met in rounds if len(met) > 0]


def round_from(leads, begin):
    """The round whose least number is begin, where leads tells the number that follows each one; else an empty list."""
    met = [begin]
    while leads[met[-1]] not in met:
        met.append(leads[met[-1]])
    return met if leads[met[-1]] == begin and min(met) == begin else []
