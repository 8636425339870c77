"""What the document says with IT HOLDS, over drawn webs and programs: [9], [10], [12], [13], [15], [19], [20], [25],
[26], [29] and [34]."""

import itertools
import random
import unittest

from lotmarks.errors import MarkRing, Ringed
from lotmarks.partings import parting
from lotmarks.programs import Program, is_sweep
from lotmarks.races import race_marks, race_of, races
from lotmarks.rounds import settles
from lotmarks.rules import Rules, rests
from lotmarks.sweeps import marks
from lotmarks.tables import is_ring, is_table, least, lots_of, program_of, table_of
from lotmarks.versions import idle, kinds, needed, reads, same
from lotmarks.waves import Piece, row, wave, waves_part
from lotmarks.webs import Web, ring
from tests.tables import program_by_words
from tests.things import last_terms, terms, without


def drawn_web(chance, most=5):
    cells = chance.sample(["a", "bb", "c", "d", "ee", "f"], chance.randint(1, most))
    return Web([(cell, chance.sample(cells, chance.randint(0, min(3, len(cells))))) for cell in cells])


def drawn_program(chance, web, most=9):
    return Program([chance.sample(web.cells, chance.randint(1, len(web))) for _ in range(chance.randint(0, most))])


def drawn_sweep(chance, web):
    cells = chance.sample(web.cells, len(web))
    lots = [[cells[0]]]
    for cell in cells[1:]:
        lots = lots[:-1] + [lots[-1] + [cell]] if chance.random() < 0.4 else lots + [[cell]]
    return Program(lots)


def changed(chance, program):
    """A program that is like another one but for some small changes."""
    lots = [list(lot) for lot in program]
    for _ in range(chance.randint(1, 3)):
        at = chance.randrange(len(lots) + 1)
        if chance.random() < 0.5 and at < len(lots):
            lots[at:at + 2] = lots[at:at + 2][::-1]
        elif chance.random() < 0.5 and lots:
            lots.insert(at, list(chance.choice(lots)))
        elif at < len(lots):
            lots[at].pop()
        lots = [lot for lot in lots if lot]
    return Program(lots)


def drawn_rules(chance, web, worths):
    tables = {}
    for cell in web:
        told = itertools.product(range(worths), repeat=len(web.sources(cell)))
        tables[cell] = [(read, chance.randrange(worths)) for read in told]
    return Rules(web, worths, tables)


def drawn_beginning(chance, web, worths):
    return {cell: chance.randrange(worths) for cell in web}


def free_rules(web, program):
    """Rules by which just those versions of a cell that come of the same are worth the same; all begin with 0."""
    found = terms(web, program)
    numbers = {cell: {} for cell in web}
    for cell, told in found.items():
        for term in told:
            numbers[cell].setdefault(term, len(numbers[cell]))
    tables = {
        cell: [
            (tuple(numbers[source][term] for source, term in zip(web.sources(cell), told[1:])), number)
            for told, number in numbers[cell].items() if told != cell
        ] for cell in web
    }
    return Rules(web, 1 + max(len(told) for told in numbers.values()), tables)


def worths_of_versions(rules, program, beginning):
    """For each cell the list of what its versions are worth."""
    found = {cell: [beginning[cell]] for cell in rules.web}
    for many in range(len(program)):
        behind = rules.run(Program(program.lots[:many + 1]), beginning)
        for cell in program.lots[many]:
            found[cell].append(behind[cell])
    return found


class TestVersions(unittest.TestCase):
    def test_alike_versions_are_worth_the_same_and_others_are_not(self):
        chance = random.Random(91)
        for _ in range(60):
            web = drawn_web(chance)
            program = drawn_program(chance, web, 7)
            found = kinds(web, program)
            for row_of in found.values():
                self.assertEqual(row_of, sorted(row_of))
            for _ in range(4):
                rules = drawn_rules(chance, web, 2)
                told = worths_of_versions(rules, program, drawn_beginning(chance, web, 2))
                for cell in web:
                    self.assertEqual(told[cell], [told[cell][first] for first in found[cell]])
            free = free_rules(web, program)
            told = worths_of_versions(free, program, {cell: 0 for cell in web})
            for cell in web:
                self.assertEqual([told[cell].index(worth) for worth in told[cell]], found[cell])

    def test_same_just_if_no_rules_and_no_beginning_tell_them_apart(self):
        chance = random.Random(101)
        met = {True: 0, False: 0}
        for _ in range(250):
            web = drawn_web(chance)
            one = drawn_program(chance, web)
            other = changed(chance, one)
            found = same(web, one, other)
            met[found] += 1
            self.assertIs(found, last_terms(web, one) == last_terms(web, other))
            if found:
                self.assertIsNone(parting(web, one, other))
                for _ in range(3):
                    rules = drawn_rules(chance, web, 3)
                    beginning = drawn_beginning(chance, web, 3)
                    self.assertEqual(rules.run(one, beginning), rules.run(other, beginning))
            else:
                told = parting(web, one, other)
                behind = [told.rules.run(program, told.beginning)[told.cell] for program in (one, other)]
                self.assertNotEqual(*behind)
                if is_sweep(web, one) and is_sweep(web, other):
                    self.assertEqual(told.rules.worths, 2)
        self.assertGreater(min(met.values()), 40)

    def test_what_needed_and_idle_tell(self):
        chance = random.Random(121)
        for _ in range(150):
            web = drawn_web(chance)
            program = drawn_program(chance, web)
            rest = without(program, idle(web, program))
            self.assertIs(same(web, program, rest), True)
            self.assertEqual(rest.renewings(), len(needed(web, program)))
            for _ in range(6):
                other = changed(chance, program)
                if same(web, program, other):
                    self.assertGreaterEqual(other.renewings(), len(needed(web, program)))
                    self.assertEqual(len(needed(web, other)), len(needed(web, program)))

    def test_what_settles(self):
        chance = random.Random(131)
        met = set()
        for _ in range(300):
            web = drawn_web(chance)
            program = drawn_program(chance, web, 4)
            found = settles(web, program)
            self.assertIs(found is None, ring(web, program.renewed()) is not None)
            if found is not None:
                self.assertLessEqual(found, len(program.renewed()))
                self.assertIs(same(web, program.times(found), program.times(found + 1)), True)
                self.assertTrue(all(not same(web, program.times(r), program.times(r + 1)) for r in range(found)))
            met.add(found)
        self.assertLessEqual({None, 0, 1, 2, 3}, met)

    def test_beginnings_that_stay(self):
        chance = random.Random(151)
        for _ in range(60):
            web = drawn_web(chance, 4)
            rules = drawn_rules(chance, web, 2)
            found = rests(rules)
            for beginning in found:
                for _ in range(3):
                    self.assertEqual(rules.run(drawn_program(chance, web), beginning), beginning)
            sweep = drawn_sweep(chance, web)
            for worths in itertools.product(range(2), repeat=len(web)):
                beginning = dict(zip(web.cells, worths))
                self.assertIs(rules.run(sweep, beginning) == beginning, beginning in found)


class TestTables(unittest.TestCase):
    def test_numbers_give_a_program_with_the_table_just_if_the_ties_allow_them(self):
        chance = random.Random(191)
        met = {True: 0, False: 0}
        for _ in range(300):
            web = drawn_web(chance, 4)
            table = table_of(web, drawn_program(chance, web, 4))
            numbers = lots_of(web, table)
            for _ in range(6):
                lots = {one: lot + chance.choice([0, 0, 0, 1, -1]) for one, lot in numbers.items()}
                if any(lots[(cell, at)] >= lots[(cell, at + 1)] for cell, at in lots if (cell, at + 1) in lots):
                    continue
                allowed = all(
                    lots[(source, version)] < lots[one] if version else True
                    for one in lots for source, version in zip(web.sources(one[0]), table[one[0]][one[1] - 1])
                ) and all(
                    lots[one] <= lots[(source, version + 1)]
                    for one in lots for source, version in zip(web.sources(one[0]), table[one[0]][one[1] - 1])
                    if (source, version + 1) in lots
                )
                lowest = min(lots.values(), default=0)
                found = program_by_words({one: lot - lowest for one, lot in lots.items()})
                self.assertIs(table_of(web, found) == table, allowed)
                met[allowed] += 1
        self.assertGreater(min(met.values()), 100)

    def test_a_table_has_a_program_or_a_ring(self):
        chance = random.Random(201)
        met = {True: 0, False: 0}
        for _ in range(400):
            web = drawn_web(chance, 4)
            table = {cell: [list(told) for told in rows] for cell, rows in table_of(web, drawn_program(chance, web)).items()}
            places = [(told, at) for rows in table.values() for told in rows for at in range(len(told))]
            for told, at in chance.sample(places, min(len(places), chance.randint(0, 2))):
                told[at] = max(0, told[at] + chance.choice([-1, 1]))
            if not is_table(web, table):
                continue
            try:
                found = table_of(web, program_of(web, table))
                self.assertEqual(found, {cell: tuple(map(tuple, rows)) for cell, rows in table.items()})
                met[True] += 1
            except Ringed as error:
                self.assertIs(is_ring(web, table, error.ring), True)
                met[False] += 1
        self.assertGreater(min(met.values()), 40)

    def test_the_least_program(self):
        chance = random.Random(251)
        for _ in range(150):
            web = drawn_web(chance)
            program = drawn_program(chance, web)
            found = least(web, program)
            self.assertIs(same(web, program, found), True)
            for _ in range(5):
                other = changed(chance, program)
                self.assertIs(least(web, other) == found, same(web, program, other))
                if same(web, program, other):
                    self.assertGreaterEqual(other.renewings(), found.renewings())
                    self.assertGreaterEqual(len(other), len(found))

    def test_each_renewing_of_the_least_program_stands_in_its_least_lot(self):
        chance = random.Random(252)
        for _ in range(100):
            web = drawn_web(chance, 4)
            program = drawn_program(chance, web)
            program = without(program, idle(web, program))
            at = {(cell, number): lot for lot, cell, number, _ in reads(web, program)}
            found = {(cell, number): lot for lot, cell, number, _ in reads(web, least(web, program))}
            self.assertEqual(sorted(found), sorted(at))
            self.assertTrue(all(found[one] <= at[one] for one in at))


class TestOrders(unittest.TestCase):
    def test_two_sweeps_do_the_same_just_if_they_have_the_same_marks(self):
        chance = random.Random(261)
        met = {True: 0, False: 0}
        for _ in range(400):
            web = drawn_web(chance, 5)
            one, other = drawn_sweep(chance, web), drawn_sweep(chance, web)
            found = same(web, one, other)
            self.assertIs(found, marks(web, one) == marks(web, other))
            met[found] += 1
        self.assertGreater(min(met.values()), 40)

    def test_which_marks_come_in_races(self):
        chance = random.Random(291)
        for _ in range(120):
            web = drawn_web(chance, 5)
            cells = chance.sample(web.cells, chance.randint(0, len(web)))
            arrows = [arrow for arrow in web.arrows if arrow[1] in cells]
            inside = [arrow for arrow in arrows if arrow[0] in cells]
            if len(inside) > 9:
                continue
            many = 0
            for told in itertools.product(("old", "new"), repeat=len(inside)):
                marked = {**{arrow: "old" for arrow in arrows}, **dict(zip(inside, told))}
                new = [arrow for arrow in inside if marked[arrow] == "new"]
                # A web of the new arrows only: its rings are those of new arrows.
                ringed = cells and ring(Web([(cell, [one for one, other in new if other == cell]) for cell in cells]), cells)
                try:
                    self.assertEqual(race_marks(web, cells, race_of(web, cells, marked)), marked)
                    self.assertFalse(ringed)
                    many += 1
                except MarkRing:
                    self.assertTrue(ringed)
            self.assertEqual(races(web, cells), many)

    def test_drawn_races(self):
        chance = random.Random(292)
        for _ in range(150):
            web = drawn_web(chance, 5)
            cells = chance.sample(web.cells, chance.randint(1, len(web)))
            waiting = {cell: [("read", source, cell) for source in web.sources(cell)] + [("write", cell)] for cell in cells}
            acts = []
            while any(waiting.values()):
                cell = chance.choice([told for told in cells if waiting[told]])
                acts.append(waiting[cell].pop(0))
            found = race_marks(web, cells, acts)
            self.assertEqual(race_marks(web, cells, race_of(web, cells, found)), found)
            self.assertTrue(all(mark == "old" for arrow, mark in found.items() if arrow[0] not in cells))

    def test_waves_part_with_three_pieces_or_never(self):
        chance = random.Random(341)
        for _ in range(150):
            cells = chance.sample(["a", "b", "cc"], chance.randint(1, 3))
            arrows = list(itertools.product(cells, (-1, 0, 1), cells))
            piece = Piece(cells, chance.sample(arrows, chance.randint(0, min(10, len(arrows)))))
            pairs = []
            for _ in range(2):
                lots = drawn_sweep(chance, Web([(cell, []) for cell in cells])).lots
                pairs.append((chance.choice(["together", "right", "left", "even", "odd"]), lots))
            parted = [n for n in range(1, 8) if not same(row(piece, n), *[wave(piece, pair, n) for pair in pairs])]
            self.assertEqual(waves_part(piece, *pairs), parted[0] if parted else None)
            self.assertTrue(not parted or parted[0] <= 3)


if __name__ == "__main__":
    unittest.main()
