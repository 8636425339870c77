"""Promises [3], [6], [9] and [10]: rules and beginnings that part two programs."""

import itertools
import unittest

from lotmarks.partings import Parting, parting
from lotmarks.programs import Program, is_sweep
from lotmarks.rules import Rules
from lotmarks.versions import same
from lotmarks.webs import Web
from tests.things import THREE, all_programs, chance_programs, check_lacking_of_two, some_webs


def all_sweeps(cells):
    """All sweeps of these cells."""
    for many in range(1, len(cells) + 1):
        for places in itertools.product(range(many), repeat=len(cells)):
            lots = [[cell for cell, place in zip(cells, places) if place == at] for at in range(many)]
            if all(lots):
                yield Program(lots)


class TestParting(unittest.TestCase):
    def check(self, web, one, other):
        """There is a parting just if the programs do unlike things, and it shows that they do; it is returned."""
        found = parting(web, one, other)
        if same(web, one, other):
            self.assertIsNone(found)
            return None
        self.assertEqual(type(found), Parting)
        self.assertEqual(type(found.rules), Rules)
        self.assertIs(found.rules.web, web)
        self.assertIsInstance(found.beginning, dict)
        self.assertEqual(tuple(found.beginning), web.cells)
        self.assertIn(found.cell, web)
        ends = [found.rules.run(program, found.beginning)[found.cell] for program in (one, other)]
        self.assertNotEqual(ends[0], ends[1])
        if is_sweep(web, one) and is_sweep(web, other):
            self.assertEqual(found.rules.worths, 2)
        return found

    def test_by_hand(self):
        web = Web([("b", ["a"]), ("a", [])])
        found = self.check(web, Program([["a"], ["b"]]), Program([["b"], ["a"]]))
        self.assertEqual(found.cell, "b")
        self.assertEqual(found.rules.worths, 2)
        self.assertIsNone(parting(web, Program([["b"], ["a"]]), Program([["a", "b"]])))

    def test_the_empty_program(self):
        self.assertIsNone(parting(THREE, Program([]), Program([])))
        for cell in "abc":
            self.assertEqual(self.check(THREE, Program([]), Program([[cell]])).cell, cell)
            self.assertEqual(self.check(THREE, Program([[cell]]), Program([])).cell, cell)

    def test_each_program_with_itself(self):
        for program in chance_programs(30, 30):
            self.assertIsNone(parting(THREE, program, Program(program.lots)))

    def test_small_programs(self):
        for web in some_webs(75):
            for one, other in itertools.product(all_programs("abc", 2), repeat=2):
                self.check(web, one, other)

    def test_all_sweeps_of_small_webs(self):
        sweeps = list(all_sweeps("abc"))
        self.assertEqual(len(sweeps), 13)
        for web in some_webs(3):
            for one, other in itertools.permutations(sweeps, 2):
                self.check(web, one, other)

    def test_sweeps_of_larger_webs(self):
        cells = "dbeca"
        sweeps = list(all_sweeps(cells))[::9]
        webs = [
            Web([(cell, list(cells)) for cell in cells]),
            Web([(cell, list(cells[at + 1:])) for at, cell in enumerate(cells)]),
            Web([(cell, [cells[at - 1], cells[at - 2]]) for at, cell in enumerate(cells)]),
            Web([(cell, [] if cell in "be" else ["b", cell]) for cell in cells]),
        ]
        for web in webs:
            for one, other in itertools.product(sweeps, repeat=2):
                self.check(web, one, other)

    def test_a_sweep_and_a_program_that_is_none(self):
        for web in some_webs(50):
            for sweep, program in itertools.product(all_sweeps("abc"), all_programs("abc", 2)):
                self.check(web, sweep, program)
                self.check(web, program, sweep)

    def test_longer_programs(self):
        for web in some_webs(60):
            for one, other in itertools.product(list(chance_programs(15, 9)), repeat=2):
                self.check(web, one, other)

    def test_long_programs(self):
        cells = "abcdefg"
        web = Web([(cell, list(cells)) for cell in cells])
        long = Program([list(cells)] * 20 + [["c", "a"]] * 30).times(5)
        self.check(web, long, long)
        self.check(web, long, Program([["a"]]) + long)
        self.check(web, long + Program([["a"], ["b"]]), long + Program([["b"], ["a"]]))

    def test_just_one_cell_is_unlike(self):
        cells = "gfedcba"
        web = Web([(cell, [cell]) for cell in cells])
        for cell in cells:
            one, other = Program([list(cells)] * 2), Program([list(cells)] * 2 + [[cell]])
            self.assertEqual(self.check(web, one, other).cell, cell)

    def test_arguments_by_name(self):
        one, other = Program([["a"]]), Program([["b"]])
        found = parting(other=other, web=THREE, one=one)
        ends = [found.rules.run(program, found.beginning)[found.cell] for program in (one, other)]
        self.assertNotEqual(ends[0], ends[1])

    def test_what_is_returned_is_new(self):
        one, other = Program([["a"], ["c"]]), Program([["c"], ["a"]])
        parting(THREE, one, other).beginning.clear()
        self.check(THREE, one, other)

    def test_what_is_passed_is_left_as_it_is(self):
        one, other = Program([["a"], ["c"]]), Program([["c"], ["a"]])
        parting(THREE, one, other)
        self.assertEqual((one, other), (Program([["a"], ["c"]]), Program([["c"], ["a"]])))
        self.assertEqual(THREE, Web([("c", ["a"]), ("a", ["c", "a"]), ("b", [])]))

    def test_cells_that_the_web_lacks(self):
        check_lacking_of_two(self, lambda one, other: parting(THREE, one, other))


class TestPartings(unittest.TestCase):
    def test_attributes(self):
        rules, beginning = Rules(THREE, 2, {}), {"c": 0, "a": 1, "b": 0}
        for made in (Parting(rules, beginning, "b"), Parting(cell="b", beginning=beginning, rules=rules)):
            self.assertEqual((made.rules, made.beginning, made.cell), (rules, beginning, "b"))

    def test_the_beginning_is_copied(self):
        beginning = {"c": 0, "a": 1, "b": 0}
        made = Parting(Rules(THREE, 2, {}), beginning, "b")
        beginning["a"] = 0
        self.assertEqual(made.beginning, {"c": 0, "a": 1, "b": 0})


if __name__ == "__main__":
    unittest.main()
