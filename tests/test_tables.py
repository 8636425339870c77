"""Promises [2], [3], [4], [6], [18], [19] and [20]: tables of reads, their ties, and the programs that have them."""

import itertools
import unittest

from lotmarks.errors import BadTable, Ringed
from lotmarks.programs import Program
from lotmarks.tables import is_table, lots_of, program_of, table_of
from lotmarks.versions import reads
from lotmarks.webs import Web
from tests.tables import (
    DRY, OWN, PAIR, ROUND, WEBS, all_tables, numbers_by_words, program_by_words, renewings, ring_by_words, some_tables,
)
from tests.things import THREE, all_programs, any_objects, chance_programs, check_lacking, no_lists, some_webs

# Of DRY: c reads a and b, a reads nothing, b reads c.
TABLE = {"c": [(1, 0), (2, 1)], "a": [(), ()], "b": [(1,)]}


def with_part(table, cell, rows):
    return {told: rows if told == cell else table[told] for told in table}


def check_bad_table(test, call):
    """call(web, table) raises BadTable for any object that is no table, ahead of all else."""
    things = [thing for thing in any_objects() if thing != {"a": []}]
    for thing in things + [{}, {"c": [], "a": []}, with_part(TABLE, "b", [(3,)]), with_part(TABLE, "b", [(True,)])]:
        with test.assertRaises(BadTable) as held:
            call(DRY, thing)
        test.assertEqual((type(held.exception), vars(held.exception)), (BadTable, {}))


def check_ringed(test, call):
    """call(web, table) raises Ringed with a ring of the table for tables that no program has."""
    for web, table in some_tables(31):
        try:
            lots_of(web, table)
        except Ringed:
            ahead = {cell: list(rows) for cell, rows in table.items()}
            with test.assertRaises(Ringed) as held:
                call(web, table)
            test.assertIsInstance(held.exception.ring, tuple)
            test.assertEqual([type(pair) for pair in held.exception.ring], [tuple] * len(held.exception.ring))
            test.assertTrue(ring_by_words(web, table, list(held.exception.ring)))
            test.assertEqual({cell: list(rows) for cell, rows in table.items()}, ahead)


class TestIsTable(unittest.TestCase):
    def test_tables(self):
        for table in [
            TABLE, {"b": [(1,)], "a": [(), ()], "c": [(1, 0), (2, 1)]}, {"c": (), "a": [], "b": ()},
            {"c": ((1, 0), [2, 1]), "a": [[], ()], "b": ([1],)}, {"c": [(2, 2)], "a": [(), ()], "b": [(0,), (1,)]},
            {"c": [(0, 0)] * 9, "a": [()] * 9, "b": [(9,)] * 9},
        ]:
            self.assertIs(is_table(DRY, table), True, table)

    def test_any_objects(self):
        for thing in any_objects():
            self.assertIs(is_table(DRY, thing), False)
        self.assertIs(is_table(Web([("a", [])]), {"a": []}), True)
        for thing in [list(TABLE.items()), list(TABLE), [TABLE], (TABLE,), str(TABLE), Program([["a"]])]:
            self.assertIs(is_table(DRY, thing), False)

    def test_keys(self):
        for cell in TABLE:
            self.assertIs(is_table(DRY, {told: TABLE[told] for told in TABLE if told != cell}), False)
        for strange in ["d", "", "A", 0, None, True, ("a",), ("c", "a"), 1]:
            self.assertIs(is_table(DRY, {**TABLE, strange: []}), False)
            self.assertIs(is_table(DRY, {"c": [], "a": [], strange: []}), False)
        self.assertIs(is_table(DRY, {}), False)

    def test_lists_of_rows_that_are_none(self):
        for cell in TABLE:
            for thing in no_lists() + [{0: (1, 0)}, "ab", {}]:
                self.assertIs(is_table(DRY, with_part(TABLE, cell, thing)), False)

    def test_rows_that_are_none(self):
        for thing in no_lists() + ["", {}, {0: 1}, "10", 1, [1], (1,), (1, 0, 0), [], [1, 0, 1], [[1], [0]]]:
            self.assertIs(is_table(DRY, with_part(TABLE, "c", [thing])), False)
            self.assertIs(is_table(DRY, with_part(TABLE, "c", [(1, 0), thing])), False)
        for row in [(0,), [0], ("",), None, "", {}, 0, (())]:
            self.assertIs(is_table(DRY, with_part(TABLE, "a", [(), row])), row == ())

    def test_versions_that_are_none(self):
        for thing in any_objects() + [-1, 3, 10 ** 20, False, True, "1", (1,), None]:
            good = isinstance(thing, int) and not isinstance(thing, bool) and 0 <= thing <= 2
            self.assertIs(is_table(DRY, with_part(TABLE, "c", [(thing, 0)])), good)
            self.assertIs(is_table(DRY, with_part(TABLE, "c", [(0, 0), [thing, 1]])), good)
        # A cell that reads itself may be told to read a version that it has later.
        self.assertIs(is_table(OWN, {"b": [(0, 2), (0, 2)], "a": []}), True)
        self.assertIs(is_table(OWN, {"b": [(0, 3), (0, 2)], "a": []}), False)
        self.assertIs(is_table(OWN, {"b": [(1, 0)], "a": []}), False)

    def test_the_table_stays(self):
        table = {"c": [[1, 0], [2, 1]], "a": [[], []], "b": [[1]]}
        is_table(DRY, table)
        self.assertEqual(table, {"c": [[1, 0], [2, 1]], "a": [[], []], "b": [[1]]})


class TestTableOf(unittest.TestCase):
    def test_by_hand(self):
        program = Program([["a"], ["c"], ["b", "a"], ["c"]])
        found = table_of(DRY, program)
        self.assertEqual(found, {"c": ((1, 0), (2, 1)), "a": ((), ()), "b": ((1,),)})
        self.assertEqual(list(found), ["c", "a", "b"])
        self.assertEqual(table_of(DRY, Program([])), {"c": (), "a": (), "b": ()})

    def test_it_tells_what_reads_tells(self):
        for web in some_webs(61):
            for program in chance_programs(20, 6):
                found = table_of(web, program)
                self.assertIs(is_table(web, found), True)
                self.assertEqual(list(found), list(web.cells))
                rows = {(cell, number): versions for _, cell, number, versions in reads(web, program)}
                told = {(cell, at + 1): found[cell][at] for cell in found for at in range(len(found[cell]))}
                self.assertEqual(told, rows)
                for row in found.values():
                    self.assertEqual((type(row), {type(read) for read in row} - {tuple}), (tuple, set()))

    def test_what_is_returned_is_new(self):
        program = Program([["a"], ["c"]])
        found = table_of(DRY, program)
        found["a"] = ((), ())
        del found["c"]
        self.assertEqual(table_of(DRY, program), {"c": ((1, 0),), "a": ((),), "b": ()})

    def test_arguments_by_name_and_cells_that_the_web_lacks(self):
        self.assertEqual(table_of(program=Program([["b"]]), web=DRY), {"c": (), "a": (), "b": ((0,),)})
        self.assertIs(is_table(thing=TABLE, web=DRY), True)
        check_lacking(self, lambda program: table_of(THREE, program))


class TestProgramOf(unittest.TestCase):
    def test_by_hand(self):
        found = lots_of(DRY, TABLE)
        self.assertEqual(found, {("c", 1): 1, ("c", 2): 3, ("a", 1): 0, ("a", 2): 1, ("b", 1): 2})
        self.assertEqual(list(found), [("c", 1), ("c", 2), ("a", 1), ("a", 2), ("b", 1)])
        self.assertEqual(program_of(DRY, TABLE), Program([["a"], ["a", "c"], ["b"], ["c"]]))

    def test_cells_that_read_one_anothers_elder_versions_stand_in_one_lot(self):
        self.assertEqual(program_of(PAIR, {"b": [(0,)], "a": [(0,)]}), Program([["a", "b"]]))
        self.assertEqual(program_of(PAIR, {"b": [(1,)], "a": [(0,)]}), Program([["a"], ["b"]]))
        table = {"c": [(0,)], "b": [(0,)], "a": [(0,)]}
        self.assertEqual(program_of(ROUND, table), Program([["a", "b", "c"]]))

    def test_the_empty_table(self):
        for web in WEBS:
            table = {cell: [] for cell in web.cells}
            self.assertEqual(lots_of(web, table), {})
            self.assertEqual(program_of(web, table), Program([]))

    def test_tables_in_other_orders_and_of_lists(self):
        rows = [("a", [[], []]), ("b", [[1]]), ("c", [[1, 0], (2, 1)])]
        for told in itertools.permutations(rows):
            self.assertEqual(list(lots_of(DRY, dict(told)).items()), list(lots_of(DRY, TABLE).items()))
            self.assertEqual(program_of(DRY, dict(told)), Program([["a"], ["a", "c"], ["b"], ["c"]]))

    def test_tables_of_programs(self):
        for web in some_webs(37):
            for program in list(all_programs("abc", 2)) + list(chance_programs(30, 6)):
                table = table_of(web, program)
                found = program_of(web, table)
                self.assertEqual(table_of(web, found), table)
                self.assertLessEqual(len(found), len(program))
                at = {(cell, number): lot for lot, cell, number, _ in reads(web, program)}
                numbers = lots_of(web, table)
                self.assertEqual(list(numbers), renewings(web, table))
                self.assertTrue(all(numbers[one] <= at[one] for one in at))

    def test_a_table_is_that_of_some_program_just_if_it_has_no_ring(self):
        for web in (PAIR, ROUND, Web([("a", ["a"])]), Web([("a", [])])):
            most = 2 if len(web) < 3 else 1
            # As each cell is renewed just so often, these are all programs that could have such a table.
            programs = [
                program for program in all_programs(web.cells, most * len(web))
                if all(sum(cell in lot for lot in program) <= most for cell in web)
            ]
            told = [table_of(web, program) for program in programs]
            for table in all_tables(web, most):
                try:
                    self.assertEqual(table_of(web, program_of(web, table)), table)
                    self.assertIn(table, told)
                except Ringed as error:
                    self.assertNotIn(table, told)
                    self.assertTrue(ring_by_words(web, table, list(error.ring)))

    def test_the_least_of_all_numbers_that_the_ties_allow(self):
        for web, table in some_tables(5):
            many = len(renewings(web, table))
            if many > 4:
                continue
            choices = list(numbers_by_words(web, table, max(many, 1)))
            try:
                found = lots_of(web, table)
            except Ringed:
                self.assertEqual(choices, [])
                continue
            self.assertEqual(found, {one: min(lots[one] for lots in choices) for one in found})
            self.assertIn(found, choices)
            for lots in choices:
                self.assertEqual(table_of(web, program_by_words(lots)), table)

    def test_long_programs(self):
        web = Web([("c", ["a", "b"]), ("a", ["c", "a"]), ("b", ["a"])])
        for program in chance_programs(5, 60):
            table = table_of(web, program)
            self.assertEqual(table_of(web, program_of(web, table)), table)
        program = Program([["a"], ["b"], ["c", "a"]] * 30)
        self.assertEqual(program_of(web, table_of(web, program)), program)

    def test_what_is_returned_is_new_and_what_is_passed_stays(self):
        table = {"c": [[1, 0], [2, 1]], "a": [[], []], "b": [[1]]}
        lots_of(DRY, table).clear()
        program_of(DRY, table)
        self.assertEqual(table, {"c": [[1, 0], [2, 1]], "a": [[], []], "b": [[1]]})
        self.assertEqual(lots_of(DRY, table), lots_of(DRY, TABLE))

    def test_arguments_by_name(self):
        self.assertEqual(lots_of(table=TABLE, web=DRY), lots_of(DRY, TABLE))
        self.assertEqual(program_of(table=TABLE, web=DRY), program_of(DRY, TABLE))


class TestWrongTables(unittest.TestCase):
    def test_no_tables(self):
        check_bad_table(self, lots_of)
        check_bad_table(self, program_of)

    def test_rings(self):
        check_ringed(self, lots_of)
        check_ringed(self, program_of)

    def test_rings_by_hand(self):
        one = Web([("a", ["a"])])
        for web, table in [
            (PAIR, {"b": [(1,)], "a": [(1,)]}), (PAIR, {"b": [(1,), (0,)], "a": [(0,)]}), (one, {"a": [(1,)]}),
            (one, {"a": [(0,), (0,)]}), (one, {"a": [(0,), (2,)]}), (ROUND, {"c": [(1,)], "b": [(1,)], "a": [(1,)]}),
        ]:
            for call in (lots_of, program_of):
                with self.assertRaises(Ringed) as held:
                    call(web, table)
                self.assertTrue(ring_by_words(web, table, list(held.exception.ring)))
        table = {"c": [(0,)], "b": [(1,)], "a": [(1,)]}
        self.assertEqual(program_of(ROUND, table), Program([["c"], ["a"], ["b"]]))


if __name__ == "__main__":
    unittest.main()
