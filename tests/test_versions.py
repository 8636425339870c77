"""Promises [2], [3], [4], [6], [8] and [9]: what renewings read, alike versions, and programs that do the same."""

import itertools
import unittest

from lotmarks.programs import Program
from lotmarks.versions import kinds, reads, same
from lotmarks.webs import Web
from tests.things import (
    LATE, LATE_LOTS, THREE, all_programs, chance_programs, check_lacking, check_lacking_of_two, last_terms, some_webs,
    terms,
)

LOTS = [["a", "c"], ["b"], ["b", "c", "a"], ["a"]]
READS = [
    (0, "c", 1, (0,)), (0, "a", 1, (0, 0)), (1, "b", 1, ()),
    (2, "c", 2, (1,)), (2, "a", 2, (1, 1)), (2, "b", 2, ()), (3, "a", 3, (2, 2)),
]


class TestReads(unittest.TestCase):
    def test_by_hand(self):
        self.assertEqual(reads(THREE, Program(LOTS)), READS)

    def test_what_kinds_of_things_are_told(self):
        found = reads(THREE, Program(LOTS))
        self.assertIsInstance(found, list)
        for row in found:
            self.assertEqual([type(part) for part in row], [int, str, int, tuple])
            self.assertIsInstance(row, tuple)

    def test_the_empty_program(self):
        self.assertEqual(reads(THREE, Program([])), [])

    def test_within_a_lot_the_order_is_that_of_the_web(self):
        for cells in itertools.permutations(["ab", "b", "a", "abc"]):
            web = Web([(cell, []) for cell in cells])
            found = reads(web, Program([["a", "ab", "abc", "b"], ["b", "a"]]))
            self.assertEqual([row[1] for row in found[:4]], list(cells))
            self.assertEqual([row[1] for row in found[4:]], [cell for cell in cells if cell in ("a", "b")])

    def test_versions_in_the_order_of_the_sources(self):
        lots = [["a"], ["b"], ["b"], ["c"], ["c"], ["c"], ["d"]]
        for sources in itertools.permutations("abc"):
            web = Web([("a", []), ("b", []), ("c", []), ("d", list(sources))])
            self.assertEqual(reads(web, Program(lots))[-1], (6, "d", 1, tuple(" abc".index(cell) for cell in sources)))

    def test_a_cell_of_the_same_lot_is_read_as_it_was_ahead_of_the_lot(self):
        web = Web([("a", ["b"]), ("b", ["a", "b"])])
        self.assertEqual(reads(web, Program([["a", "b"]])), [(0, "a", 1, (0,)), (0, "b", 1, (0, 0))])
        self.assertEqual(reads(web, Program([["a"], ["b"]])), [(0, "a", 1, (0,)), (1, "b", 1, (1, 0))])
        self.assertEqual(reads(web, Program([["b"], ["a"]])), [(0, "b", 1, (0, 0)), (1, "a", 1, (1,))])

    def test_a_cell_that_is_its_own_source(self):
        web = Web([("a", ["a"])])
        self.assertEqual(reads(web, Program([["a"]] * 4)), [(at, "a", at + 1, (at,)) for at in range(4)])

    def test_small_programs(self):
        for web, program in itertools.product(some_webs(9), all_programs("abc", 2)):
            expected = []
            for at, lot in enumerate(program.lots):
                ahead = program.lots[:at]
                for cell in [cell for cell in web.cells if cell in lot]:
                    versions = tuple(sum(source in past for past in ahead) for source in web.sources(cell))
                    expected.append((at, cell, sum(cell in past for past in ahead) + 1, versions))
            self.assertEqual(reads(web, program), expected)

    def test_there_are_as_many_as_renewings(self):
        for program in chance_programs(60, 50):
            self.assertEqual(len(reads(THREE, program)), program.renewings())

    def test_the_list_is_new(self):
        program = Program(LOTS)
        reads(THREE, program).clear()
        self.assertEqual(reads(THREE, program), READS)

    def test_arguments_by_name(self):
        self.assertEqual(reads(program=Program(LOTS), web=THREE), READS)

    def test_cells_that_the_web_lacks(self):
        check_lacking(self, lambda program: reads(THREE, program))


class TestKinds(unittest.TestCase):
    def test_by_hand(self):
        self.assertEqual(kinds(THREE, Program(LOTS)), {"c": [0, 1, 2], "a": [0, 1, 2, 3], "b": [0, 1, 1]})
        self.assertEqual(kinds(LATE, Program(LATE_LOTS)), {"z": [0, 1, 1], "y": [0, 1, 1, 3], "x": [0, 1, 1]})

    def test_the_cells_stand_in_the_order_of_the_web(self):
        for rows in itertools.permutations([("a", ["b"]), ("b", []), ("ab", ["a", "b"])]):
            found = kinds(Web(list(rows)), Program([["b"], ["a", "ab"]]))
            self.assertEqual(list(found), [cell for cell, sources in rows])
            self.assertEqual(found, {"a": [0, 1], "b": [0, 1], "ab": [0, 1]})

    def test_what_kinds_of_things_are_told(self):
        found = kinds(THREE, Program(LOTS))
        self.assertIsInstance(found, dict)
        for row in found.values():
            self.assertIsInstance(row, list)
            self.assertEqual({type(number) for number in row}, {int})

    def test_the_empty_program(self):
        self.assertEqual(kinds(THREE, Program([])), {"c": [0], "a": [0], "b": [0]})

    def test_a_cell_that_is_never_renewed(self):
        self.assertEqual(kinds(THREE, Program([["c"]])), {"c": [0, 1], "a": [0], "b": [0]})

    def test_a_renewing_whose_sources_have_not_changed(self):
        self.assertEqual(kinds(THREE, Program([["c"], ["b"], ["c"], ["c"]]))["c"], [0, 1, 1, 1])
        self.assertEqual(kinds(THREE, Program([["c"], ["a"], ["c"], ["c"]]))["c"], [0, 1, 2, 2])

    def test_sources_that_were_renewed_and_are_alike(self):
        web = Web([("a", []), ("b", ["a"]), ("c", ["b"]), ("d", ["a", "c"])])
        lots = [["a"], ["b"], ["c"], ["d"]] * 3
        self.assertEqual(kinds(web, Program(lots)), {cell: [0, 1, 1, 1] for cell in "abcd"})
        self.assertEqual(kinds(web, Program(lots[::-1])), {
            "a": [0, 1, 1, 1], "b": [0, 1, 2, 2], "c": [0, 1, 2, 3], "d": [0, 1, 2, 3],
        })

    def test_a_cell_without_sources_is_never_alike_to_its_beginning(self):
        web = Web([("a", [])])
        for many in range(1, 6):
            self.assertEqual(kinds(web, Program([["a"]] * many)), {"a": [0] + [1] * many})

    def test_a_cell_that_is_its_own_source_is_never_alike_to_an_earlier_version(self):
        self.assertEqual(kinds(Web([("a", ["a"])]), Program([["a"]] * 5)), {"a": [0, 1, 2, 3, 4, 5]})

    def test_one_unlike_source_of_many_is_enough(self):
        cells = "abcdef"
        web = Web([(cell, []) for cell in cells] + [("g", list(cells))])
        for cell in cells:
            self.assertEqual(kinds(web, Program([["g"], [cell], ["g"], ["g"], [cell], ["g"]]))["g"], [0, 1, 2, 2, 2])

    def check(self, web, program):
        """The numbers are the first versions with equal terms, and none is less than the one before it."""
        found = kinds(web, program)
        told = terms(web, program)
        self.assertEqual(found, {cell: [told[cell].index(term) for term in told[cell]] for cell in web.cells})
        for cell, row in found.items():
            self.assertEqual(len(row), 1 + sum(cell in lot for lot in program.lots))
            self.assertEqual(row, sorted(row))

    def test_small_programs(self):
        for web, program in itertools.product(some_webs(9), all_programs("abc", 2)):
            self.check(web, program)

    def test_longer_programs(self):
        for rows in ([("c", ["a"]), ("a", ["c"]), ("b", [])], [("c", ["a", "b"]), ("b", ["a"]), ("a", [])],
                     [("b", []), ("a", ["b"]), ("c", ["c", "a"])], [("b", ["a"]), ("a", []), ("c", [])]):
            for program in chance_programs(60, 10):
                self.check(Web(rows), program)

    def test_numbers_never_fall_in_long_programs(self):
        for web in some_webs(30):
            for program in chance_programs(5, 50):
                for row in kinds(web, program).values():
                    self.assertEqual(row, sorted(row))

    def test_what_is_returned_is_new(self):
        program = Program(LOTS)
        found = kinds(THREE, program)
        found["a"].clear()
        found["b"].append(1)
        found.pop("c")
        self.assertEqual(kinds(THREE, program), {"c": [0, 1, 2], "a": [0, 1, 2, 3], "b": [0, 1, 1]})

    def test_arguments_by_name(self):
        self.assertEqual(kinds(program=Program([]), web=THREE), {"c": [0], "a": [0], "b": [0]})

    def test_cells_that_the_web_lacks(self):
        check_lacking(self, lambda program: kinds(THREE, program))


class TestSame(unittest.TestCase):
    def check(self, web, one, other, expected):
        self.assertIs(same(web, Program(one), Program(other)), expected)
        self.assertIs(same(web, Program(other), Program(one)), expected)

    def test_each_program_with_itself(self):
        for program in [Program([]), Program(LOTS), *chance_programs(40, 50)]:
            self.assertIs(same(THREE, program, program), True)
            self.assertIs(same(THREE, program, Program(program.lots)), True)

    def test_the_empty_program(self):
        self.check(THREE, [], [], True)
        for cell in "abc":
            self.check(THREE, [], [[cell]], False)

    def test_a_lot_that_changes_nothing(self):
        self.check(THREE, [["b"]], [["b"], ["b"]], True)
        self.check(THREE, [["c"], ["b"]], [["c"], ["b"], ["c", "b"]], True)
        self.check(LATE, LATE_LOTS, [["x"], ["y"], ["z"]], True)
        self.check(THREE, [["a"]], [["a"], ["a"]], False)
        self.check(LATE, [["x"], ["y"], ["z"]], [["y"], ["x"], ["z"]], False)

    def test_cells_that_do_not_read_one_another_are_exchanged_or_joined(self):
        web = Web([("a", ["d"]), ("b", ["d", "b"]), ("c", []), ("d", ["a"])])
        for one, other in itertools.combinations("abc", 2):
            for lots in [[[one], [other]], [[other], [one]]]:
                self.check(web, lots, [[one, other]], True)
                self.check(web, lots + [["d"], [one]], [[other, one], ["d"], [one]], True)
        self.check(web, [["a"], ["b"], ["c"], ["d"]], [["b", "c"], ["a"], ["d"]], True)

    def test_cells_that_read_one_another_are_not(self):
        web = Web([("a", ["b"]), ("b", []), ("c", [])])
        self.check(web, [["a"], ["b"]], [["a", "b"]], True)
        self.check(web, [["b"], ["a"]], [["a", "b"]], False)
        self.check(web, [["b"], ["a"]], [["a"], ["b"]], False)

    def test_an_unlike_version_that_nothing_is_left_of(self):
        web = Web([("a", ["b"]), ("b", []), ("c", ["a"])])
        self.check(web, [["a"], ["b"], ["a"]], [["b"], ["a"]], True)
        self.check(web, [["a"], ["c"], ["b"], ["a"]], [["c"], ["b"], ["a"]], False)

    def test_one_cell_that_is_unlike_is_enough(self):
        cells = "abcdefg"
        web = Web([(cell, list(cells)) for cell in cells])
        for cell in cells:
            self.check(web, [list(cells)], [list(cells), [cell]], False)

    def test_small_programs(self):
        for web in some_webs(60):
            told = [(program, last_terms(web, program)) for program in all_programs("abc", 2)]
            for (one, term), (other, past) in itertools.product(told, repeat=2):
                self.assertIs(same(web, one, other), term == past)

    def test_chance_programs(self):
        found = []
        for rows in ([("c", ["a"]), ("a", ["c"]), ("b", [])], [("c", ["a", "b"]), ("b", ["a"]), ("a", [])]):
            web = Web(rows)
            told = [(program, last_terms(web, program)) for program in chance_programs(60, 7)]
            for (one, term), (other, past) in itertools.product(told, repeat=2):
                found.append(same(web, one, other))
                self.assertIs(found[-1], term == past)
        self.assertTrue(found.count(True) > 200 and found.count(False) > 200)

    def test_long_programs(self):
        cells = "abcdefg"
        web = Web([(cell, list(cells)) for cell in cells])
        long = Program([list(cells), ["a"], ["g", "b"]] * 16).times(5)
        self.assertIs(same(web, long, long + Program([])), True)
        self.assertIs(same(web, long, Program([["a"]]) + long), False)
        self.assertIs(same(web, long + Program([["c", "d"]]), long + Program([["c"], ["d"]])), False)
        self.assertIs(same(Web([(cell, []) for cell in cells]), long, long.times(2)), True)

    def test_many_programs_with_one(self):
        web = Web([("a", ["a"]), ("b", ["b"]), ("c", ["a", "b"])])

        def made(x, y):
            return Program([["a"]] * x + [["b"]] * y + [["c"]] + [["a"]] * (20 - x) + [["b"]] * (20 - y))

        one = made(7, 19)
        for x in range(21):
            for y in range(21):
                self.assertIs(same(web, one, made(x, y)), (x, y) == (7, 19), (x, y))

    def test_cells_with_several_sources_in_lots_of_several_cells(self):
        web = Web([("a", ["a"]), ("b", ["b"]), ("c", ["a", "b"]), ("d", ["b", "a"])])
        # c and d read what they read last, ahead of the lot in which a or b stands with them.
        for x in range(12):
            for y in range(12):
                lots = [["a"]] * x + [["b"]] * y + [["d", "c", "a"]] + [["a"]] * (12 - x) + [["b"]] * (12 - y)
                told = Program([["a", "b"]] * 4 + [["a"]] + [["c", "a", "d"]] + [["b"]] * 8 + [["a"]] * 7)
                self.assertIs(same(web, told, Program(lots)), (x, y) == (5, 4), (x, y))

    def test_lots_of_several_cells_that_read_one_another(self):
        web = Web([("a", ["b", "c"]), ("b", ["a", "c"]), ("c", ["b", "a"])])
        programs = list(all_programs("abc", 2))
        for one, other in itertools.product(programs, repeat=2):
            self.assertIs(same(web, one, other), last_terms(web, one) == last_terms(web, other))

    def test_arguments_by_name(self):
        one, other = Program([["b"]]), Program([["b"], ["b"]])
        self.assertIs(same(other=other, one=one, web=THREE), True)
        self.assertIs(same(THREE, one, other=Program([])), False)

    def test_cells_that_the_web_lacks(self):
        check_lacking_of_two(self, lambda one, other: same(THREE, one, other))


if __name__ == "__main__":
    unittest.main()
