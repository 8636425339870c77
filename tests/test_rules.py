"""Promises [3], [4], [5] and [14]: rules that are told."""

import itertools
import unittest

from lotmarks.errors import BadNumber, BadRules, BadWorth, UnknownCell
from lotmarks.programs import Program
from lotmarks.rules import Rules
from lotmarks.webs import Web
from tests.things import THREE, EqualToAll, any_objects, check_equal, check_raises, nested, no_lists

TABLES = {
    "a": [((2, 1), 1), ((0, 0), 2), ((1, 2), 0), ((0, 2), 1)],
    "c": [((1,), 2), ((0,), 1)],
    "b": [((), 2)],
}


def no_worths(worths):
    """Any objects that are no worths below a number."""
    return [thing for thing in any_objects() if type(thing) is not int] + [-1, worths, worths + 1, 10 ** 30, -10 ** 30]


def wrong_reads(many, worths):
    """Any objects that are no reads of so many worths, for a cell with at least one source."""
    wrong = [(*[0] * at, thing, *[0] * (many - 1 - at)) for thing in no_worths(worths) for at in range(many)]
    lengths = [[0] * other for other in range(many + 3) if other != many]
    return no_lists() + wrong + [list(read) for read in wrong] + lengths + [tuple(read) for read in lengths] + [
        nested(5000), [[0] * many], ([0] * many,), {0: 0}, "0" * many,
    ]


class TestParts(unittest.TestCase):
    def test_web_and_worths(self):
        rules = Rules(THREE, 3, TABLES)
        self.assertIs(rules.web, THREE)
        self.assertEqual((rules.worths, type(rules.worths)), (3, int))

    def test_table_is_ascending_and_lacks_what_is_0(self):
        rules = Rules(THREE, 3, TABLES)
        self.assertEqual(rules.table("a"), [((0, 0), 2), ((0, 2), 1), ((2, 1), 1)])
        self.assertEqual(rules.table("c"), [((0,), 1), ((1,), 2)])
        self.assertEqual(rules.table("b"), [((), 2)])

    def test_what_kinds_of_things_a_table_tells(self):
        for told in (TABLES, {cell: [[list(read), worth] for read, worth in pairs] for cell, pairs in TABLES.items()}):
            for cell in "abc":
                table = Rules(THREE, 3, told).table(cell)
                self.assertIsInstance(table, list)
                for pair in table:
                    self.assertEqual([type(part) for part in pair], [tuple, int])
                    self.assertIsInstance(pair, tuple)

    def test_reads_ascend_as_numbers(self):
        web = Web([("a", ["a", "b"]), ("b", [])])
        reads = list(itertools.product(range(12), repeat=2))
        rules = Rules(web, 12, {"a": [(read, 1) for read in reads[::-1]]})
        self.assertEqual(rules.table("a"), [(read, 1) for read in reads])

    def test_tells(self):
        rules = Rules(THREE, 3, TABLES)
        told = dict(TABLES["a"])
        for read in itertools.product(range(3), repeat=2):
            self.assertEqual(rules.tells("a", read), told.get(read, 0))
            self.assertEqual(rules.tells("a", list(read)), told.get(read, 0))
        self.assertEqual([rules.tells("c", (worth,)) for worth in range(3)], [1, 2, 0])

    def test_cells_without_sources(self):
        for worth in range(3):
            rules = Rules(THREE, 3, {"b": [((), worth)]})
            self.assertEqual((rules.tells("b", ()), rules.tells("b", [])), (worth, worth))
            self.assertEqual(rules.table("b"), [((), worth)] if worth else [])
        self.assertEqual(Rules(THREE, 3, {"b": []}).tells("b", ()), 0)

    def test_cells_that_tables_lacks(self):
        rules = Rules(THREE, 3, {"c": [((0,), 1)]})
        self.assertEqual((rules.table("a"), rules.table("b"), rules.table("c")), ([], [], [((0,), 1)]))
        self.assertEqual((rules.tells("a", (0, 0)), rules.tells("b", ()), rules.tells("c", (0,))), (0, 0, 1))
        self.assertEqual([Rules(THREE, 3, {}).table(cell) for cell in "abc"], [[], [], []])

    def test_one_worth(self):
        rules = Rules(THREE, 1, {"a": [((0, 0), 0)], "b": [((), 0)]})
        self.assertEqual((rules.worths, rules.tells("a", (0, 0)), rules.table("a")), (1, 0, []))

    def test_lists_and_tuples_in_each_place(self):
        for outer, pair, inner in itertools.product((list, tuple), repeat=3):
            told = {cell: outer(pair((inner(read), worth)) for read, worth in pairs) for cell, pairs in TABLES.items()}
            rules = Rules(THREE, 3, told)
            self.assertEqual(rules, Rules(THREE, 3, TABLES))
            for cell in "abc":
                self.assertEqual(rules.table(cell), Rules(THREE, 3, TABLES).table(cell))
                for read, worth in TABLES[cell]:
                    self.assertEqual(rules.tells(cell, inner(read)), worth)

    def test_arguments_by_name(self):
        rules = Rules(tables=TABLES, worths=3, web=THREE)
        self.assertEqual(rules, Rules(THREE, 3, TABLES))
        self.assertEqual(rules.table(cell="c"), [((0,), 1), ((1,), 2)])
        self.assertEqual(rules.tells(read=(2, 1), cell="a"), 1)
        self.assertEqual(rules.tells("a", read=[0, 0]), 2)


class TestCopies(unittest.TestCase):
    def test_what_the_caller_changes_afterwards(self):
        tables = {"c": [[[0], 1], [[1], 2]], "b": [[[], 2]]}
        rules = Rules(THREE, 3, tables)
        tables["c"][0][0][0] = 2
        tables["c"][1][1] = 1
        tables["b"].clear()
        tables["a"] = [((0, 0), 1)]
        self.assertEqual([rules.table(cell) for cell in "abc"], [[], [((), 2)], [((0,), 1), ((1,), 2)]])
        self.assertEqual([rules.tells("c", (worth,)) for worth in range(3)], [1, 2, 0])
        self.assertEqual(rules, Rules(THREE, 3, {"c": [((0,), 1), ((1,), 2)], "b": [((), 2)]}))

    def test_what_is_passed_is_left_as_it_is(self):
        tables = {"c": [[[0], 1], [[1], 0]], "b": [[[], 2]]}
        read = [1]
        Rules(THREE, 3, tables).tells("c", read)
        self.assertEqual((tables, read), ({"c": [[[0], 1], [[1], 0]], "b": [[[], 2]]}, [1]))

    def test_the_lists_are_new(self):
        rules = Rules(THREE, 3, TABLES)
        rules.table("a").clear()
        rules.table("c").append(((2,), 1))
        self.assertEqual(rules.table("a"), [((0, 0), 2), ((0, 2), 1), ((2, 1), 1)])
        self.assertEqual(rules.table("c"), [((0,), 1), ((1,), 2)])
        self.assertEqual(rules, Rules(THREE, 3, TABLES))


class TestWrongRules(unittest.TestCase):
    def test_worths(self):
        wrong = [thing for thing in any_objects() if type(thing) is not int] + [0, -1, -10 ** 30]
        for thing in wrong:
            for tables in ({}, TABLES, {"z": []}, {"a": None}):
                check_raises(self, BadNumber, thing, lambda: Rules(THREE, thing, tables))
                check_raises(self, BadNumber, thing, lambda: Rules(tables=tables, web=THREE, worths=thing))

    def test_keys_that_are_no_cells(self):
        keys = [None, True, False, 0, 1, 10 ** 30, "", "A", "aa", "d", "abcdefghi", (), ("a",), ("a", "b"), ((),)]
        for key in keys:
            for tables in ({key: []}, {"a": [], key: None}, {"c": None, key: [], "zzz": []}, {key: 1, "zz": []}):
                check_raises(self, UnknownCell, key, lambda: Rules(THREE, 3, tables))
        for key in [thing for thing in no_lists() if thing.__hash__ is not None and thing not in ("a",)]:
            check_raises(self, UnknownCell, key, lambda: Rules(THREE, 3, {key: []}))

    def test_the_first_key_by_the_dict(self):
        for keys in itertools.permutations(["a", "z", "d", None, 1]):
            first = [key for key in keys if key != "a"][0]
            check_raises(self, UnknownCell, first, lambda: Rules(THREE, 3, {key: [] for key in keys}))

    def check(self, cell, thing):
        """What is no table of a cell is told, whatever stands beside it in the dict."""
        fine = {"a": [((0, 0), 1)], "b": [((), 1)], "c": []}
        check_raises(self, BadRules, cell, lambda: Rules(THREE, 3, {cell: thing}))
        check_raises(self, BadRules, cell, lambda: Rules(THREE, 3, {**fine, cell: thing}))

    def test_no_list(self):
        for cell, thing in itertools.product("abc", no_lists()):
            self.check(cell, thing)

    def test_things_that_are_no_pairs(self):
        for thing in any_objects():
            for cell in "abc":
                self.check(cell, [thing])
            self.check("c", [((0,), 1), thing])
            self.check("c", (thing, ((0,), 1)))
        for thing in [((0,),), ((0,), 1, 1), [(0,)], [1, (0,)], (1, 1), (0, 1), ((0, 1),), ({}, 1), ((0,), (1,))]:
            self.check("c", [thing])
            self.check("c", [((1,), 1), thing])
        self.check("b", [((), ())])
        self.check("b", [()])

    def test_wrong_reads(self):
        for cell, many in (("c", 1), ("a", 2)):
            for read in wrong_reads(many, 3):
                self.check(cell, [(read, 1)])
                self.check(cell, [[[0] * many, 2], [read, 0]])
        for read in no_lists() + [(0,), [0], ((),), [[]], (None,)]:
            self.check("b", [(read, 1)])

    def test_wrong_worths(self):
        for worth in no_worths(3):
            self.check("a", [((0, 0), worth)])
            self.check("b", [((), worth)])
            self.check("c", [((0,), 1), [[1], worth], ((2,), 1)])
        check_raises(self, BadRules, "c", lambda: Rules(THREE, 1, {"c": [((0,), 1)]}))
        check_raises(self, BadRules, "c", lambda: Rules(THREE, 1, {"c": [((1,), 0)]}))

    def test_truths_are_no_worths(self):
        for truth in (True, False):
            self.check("c", [((0,), truth)])
            self.check("c", [((truth,), 1)])
            self.check("a", [((0, truth), 1)])

    def test_a_read_twice(self):
        for one, other in itertools.product((list, tuple), repeat=2):
            for worth, again in itertools.product(range(3), repeat=2):
                self.check("c", [(one((1,)), worth), ((0,), 1), (other((1,)), again)])
                self.check("a", [[one((1, 2)), worth], [other((1, 2)), again]])
                self.check("b", [(one(()), worth), (other(()), again)])

    def test_the_first_cell_is_told_by_the_web_and_not_by_the_dict(self):
        for cells in itertools.permutations("abc"):
            web = Web([(cell, []) for cell in cells])
            for keys in itertools.permutations("abc"):
                check_raises(self, BadRules, cells[0], lambda: Rules(web, 3, {key: None for key in keys}))
                tables = {key: [] if key == cells[0] else [((), 9)] for key in keys}
                check_raises(self, BadRules, cells[1], lambda: Rules(web, 3, tables))
                lacking = {key: [((0,), 1)] for key in keys if key != cells[0]}
                check_raises(self, BadRules, cells[1], lambda: Rules(web, 3, lacking))

    def test_keys_go_ahead_of_tables(self):
        check_raises(self, UnknownCell, "z", lambda: Rules(THREE, 3, {"c": None, "a": None, "z": None}))

    def test_as_many_worths_as_the_number_allows(self):
        web = Web([("a", ["a"])])
        for worths in range(1, 13):
            rules = Rules(web, worths, {"a": [((worths - 1,), worths - 1)]})
            self.assertEqual(rules.tells("a", (worths - 1,)), worths - 1)
            check_raises(self, BadRules, "a", lambda: Rules(web, worths, {"a": [((worths,), 0)]}))
            check_raises(self, BadRules, "a", lambda: Rules(web, worths, {"a": [((0,), worths)]}))


class TestWrongCalls(unittest.TestCase):
    def test_things_that_are_no_cells(self):
        rules = Rules(THREE, 3, TABLES)
        for thing in any_objects():
            if thing not in ("a", "b"):
                check_raises(self, UnknownCell, thing, lambda: rules.table(thing))
                check_raises(self, UnknownCell, thing, lambda: rules.tells(thing, ()))
                check_raises(self, UnknownCell, thing, lambda: rules.tells(thing, None))
        self.assertEqual(rules, Rules(THREE, 3, TABLES))

    def test_things_that_are_no_reads(self):
        rules = Rules(THREE, 3, TABLES)
        for cell, many in (("c", 1), ("a", 2)):
            for read in wrong_reads(many, 3):
                check_raises(self, BadWorth, cell, lambda: rules.tells(cell, read))
        for read in no_lists() + [(0,), [0], ((),), [[]], (None,), nested(5000)]:
            check_raises(self, BadWorth, "b", lambda: rules.tells("b", read))
        self.assertEqual(rules, Rules(THREE, 3, TABLES))


class TestEqual(unittest.TestCase):
    def test_rules_that_tell_the_same(self):
        rules = Rules(THREE, 3, TABLES)
        check_equal(self, rules, rules, True)
        for order in itertools.permutations("abc"):
            told = {cell: [[list(read), worth] for read, worth in TABLES[cell][::-1]] for cell in order}
            check_equal(self, rules, Rules(THREE, 3, told), True)
        check_equal(self, rules, Rules(Web([("c", ["a"]), ("a", ["c", "a"]), ("b", [])]), 3, TABLES), True)

    def test_worths_of_0_are_no_matter(self):
        every = {"a": [(read, 0) for read in itertools.product(range(3), repeat=2)], "c": [((0,), 0)], "b": [((), 0)]}
        check_equal(self, Rules(THREE, 3, {}), Rules(THREE, 3, every), True)
        check_equal(self, Rules(THREE, 3, {"a": [], "c": [((2,), 0)]}), Rules(THREE, 3, {"b": []}), True)
        check_equal(self, Rules(THREE, 3, TABLES), Rules(THREE, 3, {**TABLES, "c": TABLES["c"] + [((2,), 0)]}), True)

    def test_one_worth_that_is_unlike_is_enough(self):
        rules = Rules(THREE, 3, TABLES)
        for cell, read in [("a", (0, 1)), ("a", (2, 2)), ("c", (2,))]:
            for worth in (1, 2):
                check_equal(self, rules, Rules(THREE, 3, {**TABLES, cell: TABLES[cell] + [(read, worth)]}), False)
        check_equal(self, rules, Rules(THREE, 3, {**TABLES, "b": [((), 1)]}), False)
        check_equal(self, rules, Rules(THREE, 3, {**TABLES, "b": []}), False)
        check_equal(self, Rules(THREE, 3, {"c": [((0,), 1)]}), Rules(THREE, 3, {"c": [((1,), 1)]}), False)

    def test_other_worths_and_webs(self):
        check_equal(self, Rules(THREE, 3, TABLES), Rules(THREE, 4, TABLES), False)
        check_equal(self, Rules(THREE, 1, {}), Rules(THREE, 2, {}), False)
        check_equal(self, Rules(THREE, 2, {}), Rules(Web([("a", ["c", "a"]), ("c", ["a"]), ("b", [])]), 2, {}), False)
        check_equal(self, Rules(THREE, 2, {}), Rules(Web([("c", ["a"]), ("a", ["a", "c"]), ("b", [])]), 2, {}), False)
        check_equal(self, Rules(THREE, 2, {}), Rules(Web([("a", [])]), 2, {}), False)

    def test_things_of_other_kinds(self):
        others = [thing for thing in any_objects() if not isinstance(thing, Rules)]
        for rules in (Rules(THREE, 3, TABLES), Rules(THREE, 1, {}), Rules(Web([("a", [])]), 1, {})):
            for thing in others + [rules.web, rules.worths, TABLES, rules.table("a"), Program([["a"]])]:
                check_equal(self, rules, thing, False)
            self.assertIs(rules == EqualToAll(), False)


if __name__ == "__main__":
    unittest.main()
