"""Promises [2], [3], [4] and [21] to [24]: rings and chains of tables, spans, and one cell in each lot."""

import itertools
import unittest

from lotmarks.errors import BadNumber, Ringed, TooFew
from lotmarks.programs import Program
from lotmarks.tables import (
    chain, fewest_lots, is_chain, is_ring, lots_of, one_by_one, program_of, spans, table_of,
)
from lotmarks.webs import Web
from tests.tables import (
    DRY, OWN, PAIR, ROUND, WEBS, numbers_by_words, program_by_words, renewings, ring_by_words, some_tables, sorts,
)
from tests.test_tables import TABLE, check_bad_table, check_ringed
from tests.things import any_objects, check_raises, no_lists

# Each reads the elder version of the other one, so they can only stand in one lot.
CROSSED = {"b": [(0,)], "a": [(0,)]}
# Each reads the new version of the other one.
WRONG = {"b": [(1,)], "a": [(1,)]}
OWN_RING = {"b": [], "a": [(1,)]}


def no_renewings():
    """Any objects that are no renewings of any table."""
    return any_objects() + [
        (), ("a",), ("a", 1, 1), ("a", 0), ("a", -1), ("a", 9), ("a", True), ("a", "1"), ("a", None), ("a", (1,)),
        ("z", 1), ("", 1), (1, "a"), (None, 1), (["a"], 1), ("A", 1), "a1", {"a": 1}, ("a", 10 ** 20), ("ab", 1),
    ]


class TestIsRing(unittest.TestCase):
    def test_by_hand(self):
        self.assertIs(is_ring(PAIR, WRONG, [("b", 1), ("a", 1)]), True)
        self.assertIs(is_ring(PAIR, WRONG, [("a", 1), ("b", 1)]), True)
        self.assertIs(is_ring(PAIR, WRONG, (["a", 1], ("b", 1))), True)
        self.assertIs(is_ring(PAIR, WRONG, [("a", 1), ("b", 1)] * 3), True)
        self.assertIs(is_ring(PAIR, WRONG, [("a", 1), ("b", 1), ("b", 1)]), False)
        self.assertIs(is_ring(PAIR, WRONG, [("a", 1)]), False)
        self.assertIs(is_ring(PAIR, WRONG, [("b", 1)]), False)
        self.assertIs(is_ring(OWN, OWN_RING, [("a", 1)]), True)
        self.assertIs(is_ring(OWN, OWN_RING, [["a", 1], ("a", 1)]), True)

    def test_a_ring_of_two_sorts_of_ties(self):
        # b reads a's second version, a reads the version of b ahead of this in its third renewing.
        web, table = PAIR, {"b": [(2,)], "a": [(0,), (0,), (0,)]}
        self.assertIs(is_ring(web, table, [("a", 3), ("b", 1)]), False)
        table = {"b": [(2,)], "a": [(1,), (0,)]}
        self.assertIs(is_ring(web, table, [("b", 1), ("a", 1), ("a", 2)]), True)
        self.assertIs(is_ring(web, table, [("a", 2), ("b", 1), ("a", 1)]), True)
        self.assertIs(is_ring(web, table, [("a", 1), ("b", 1), ("a", 2)]), False)

    def test_no_ring_of_ties_that_are_not_strict(self):
        ring = [("a", 1), ("b", 1)]
        self.assertIs(is_ring(PAIR, CROSSED, ring), False)
        self.assertIs(is_ring(PAIR, CROSSED, ring, False), False)
        self.assertIs(is_ring(PAIR, CROSSED, ring, True), True)
        self.assertIs(is_ring(PAIR, CROSSED, ring, alone=True), True)
        self.assertIs(is_ring(PAIR, CROSSED, ring * 2, alone=True), True)
        self.assertIs(is_ring(PAIR, CROSSED, ring[:1], alone=True), False)
        # (a, 1) reads version 0 of itself, so it is not behind itself.
        table = {"b": [], "a": [(0,)]}
        self.assertEqual(sorts(OWN, table, ("a", 1), ("a", 1)), {"not behind"})
        for ring in ([("a", 1)], [("a", 1), ("a", 1)]):
            self.assertIs(is_ring(OWN, table, ring), False)
            self.assertIs(is_ring(OWN, table, ring, alone=True), False)

    def test_strict_rings_are_rings_with_alone(self):
        self.assertIs(is_ring(PAIR, WRONG, [("b", 1), ("a", 1)], alone=True), True)
        self.assertIs(is_ring(OWN, OWN_RING, [("a", 1)], alone=True), True)
        self.assertIs(is_ring(PAIR, WRONG, [("b", 1)], alone=True), False)

    def test_by_words(self):
        for web, table in some_tables(41):
            told = renewings(web, table)
            for many in range(4):
                for ring in itertools.product(told, repeat=many):
                    for alone in (False, True):
                        expected = ring_by_words(web, table, ring, alone)
                        self.assertIs(is_ring(web, table, list(ring), alone), expected)

    def test_rings_turned_about_and_rings_with_one_renewing_more_or_less(self):
        met = 0
        for web, table in some_tables(11):
            try:
                lots_of(web, table)
            except Ringed as error:
                ring = list(error.ring)
                met += 1
                for at in range(len(ring)):
                    self.assertIs(is_ring(web, table, ring[at:] + ring[:at]), True)
                    less = ring[:at] + ring[at + 1:]
                    self.assertIs(is_ring(web, table, less), ring_by_words(web, table, less))
                    for one in renewings(web, table):
                        more = ring[:at] + [one] + ring[at:]
                        self.assertIs(is_ring(web, table, more), ring_by_words(web, table, more))
        self.assertGreater(met, 100)

    def test_any_objects(self):
        for thing in any_objects() + [[], (), "a1", {("a", 1): ("b", 1)}, ("a", 1), [("a", 1), ("b", 1), None]]:
            for alone in (False, True):
                self.assertIs(is_ring(PAIR, WRONG, thing, alone), False)
        for thing in no_renewings():
            for alone in (False, True):
                self.assertIs(is_ring(PAIR, WRONG, [thing], alone), False)
                self.assertIs(is_ring(PAIR, WRONG, [("a", 1), ("b", 1), thing], alone), False)
                self.assertIs(is_ring(OWN, OWN_RING, [("a", 1), thing], alone), False)

    def test_no_table(self):
        for thing in any_objects() + [{}, {"b": [(2,)], "a": [(1,)]}, {"b": [(1,)], "a": [(True,)]}]:
            for alone in (False, True):
                self.assertIs(is_ring(PAIR, thing, [("a", 1), ("b", 1)], alone), False)

    def test_arguments_by_name(self):
        ring = [("a", 1), ("b", 1)]
        self.assertIs(is_ring(alone=True, renewings=ring, table=CROSSED, web=PAIR), True)
        self.assertIs(is_ring(renewings=ring, table=CROSSED, web=PAIR), False)


class TestChain(unittest.TestCase):
    def test_by_hand(self):
        self.assertEqual(fewest_lots(DRY, TABLE), 4)
        self.assertEqual(chain(DRY, TABLE), [("a", 1), ("c", 1), ("b", 1), ("c", 2)])
        self.assertEqual(is_chain(DRY, TABLE, [("a", 1), ("c", 1), ("b", 1), ("c", 2)]), 4)
        self.assertEqual(is_chain(DRY, TABLE, [("c", 1), ("a", 2), ("c", 2)]), 2)
        self.assertEqual(is_chain(DRY, TABLE, (["c", 1], ("a", 2))), 1)
        self.assertEqual(is_chain(DRY, TABLE, [("c", 1)]), 1)
        self.assertIsNone(is_chain(DRY, TABLE, [("a", 2), ("c", 1)]))
        self.assertEqual((fewest_lots(PAIR, CROSSED), is_chain(PAIR, CROSSED, [("a", 1), ("b", 1)] * 5)), (1, 1))

    def test_no_renewings(self):
        for web in WEBS:
            table = {cell: () for cell in web.cells}
            self.assertEqual((fewest_lots(web, table), chain(web, table)), (0, []))
            self.assertEqual((is_chain(web, table, []), is_chain(web, table, ())), (0, 0))
        self.assertEqual(is_chain(DRY, TABLE, []), 0)
        self.assertEqual(is_chain(PAIR, WRONG, ()), 0)

    def test_a_tie_of_both_sorts_counts_as_strict(self):
        # (b, 1) reads version 0 of a, so it is not behind (a, 1), which reads version 1 of b.
        table = {"b": [(0,)], "a": [(1,)]}
        self.assertEqual(sorts(PAIR, table, ("b", 1), ("a", 1)), {"strict", "not behind"})
        self.assertEqual(is_chain(PAIR, table, [("b", 1), ("a", 1)]), 2)
        both = [
            (web, table, one, other) for web, table in some_tables() for one in renewings(web, table)
            for other in renewings(web, table) if len(sorts(web, table, one, other)) == 2
        ]
        self.assertGreater(len(both), 100)
        for web, table, one, other in both:
            self.assertEqual(is_chain(web, table, [one, other]), 2)

    def test_it_shows_that_there_are_no_fewer_lots(self):
        for web, table in some_tables():
            try:
                program = program_of(web, table)
            except Ringed:
                continue
            found = chain(web, table)
            self.assertIsInstance(found, list)
            self.assertEqual([type(pair) for pair in found], [tuple] * len(found))
            self.assertEqual(fewest_lots(web, table), len(program))
            self.assertEqual(is_chain(web, table, found), len(program))
            ties = [sorts(web, table, *pair) for pair in zip(found, found[1:])]
            self.assertTrue(all(ties))
            self.assertEqual(sum("strict" in tie for tie in ties), max(len(program) - 1, 0))

    def test_is_chain_by_words(self):
        for web, table in some_tables(41):
            for many in range(4):
                for told in itertools.product(renewings(web, table), repeat=many):
                    ties = [sorts(web, table, *pair) for pair in zip(told, told[1:])]
                    expected = None
                    if all(ties):
                        expected = sum("strict" in tie for tie in ties) + 1 if told else 0
                    found = is_chain(web, table, list(told))
                    self.assertEqual(found, expected)
                    self.assertNotIsInstance(found, bool)

    def test_any_objects(self):
        for thing in no_lists() + [["a"], [None], [["a", 1], 1], [[]]]:
            self.assertIsNone(is_chain(DRY, TABLE, thing))
        for thing in no_renewings():
            self.assertIsNone(is_chain(DRY, TABLE, [thing]))
            self.assertIsNone(is_chain(DRY, TABLE, [("a", 1), thing]))

    def test_no_table(self):
        for thing in any_objects():
            for told in ([], [("a", 1)], None, "a"):
                self.assertIsNone(is_chain(DRY, thing, told))
        check_bad_table(self, fewest_lots)
        check_bad_table(self, chain)

    def test_rings(self):
        check_ringed(self, fewest_lots)
        check_ringed(self, chain)

    def test_arguments_by_name(self):
        self.assertEqual(fewest_lots(table=TABLE, web=DRY), 4)
        self.assertEqual(is_chain(renewings=chain(table=TABLE, web=DRY), table=TABLE, web=DRY), 4)


class TestSpans(unittest.TestCase):
    def test_by_hand(self):
        found = spans(DRY, TABLE, 4)
        self.assertEqual(found, {("c", 1): (1, 1), ("c", 2): (3, 3), ("a", 1): (0, 0), ("a", 2): (1, 2), ("b", 1): (2, 2)})
        self.assertEqual(list(found), [("c", 1), ("c", 2), ("a", 1), ("a", 2), ("b", 1)])
        self.assertEqual(spans(DRY, TABLE, 6)[("a", 2)], (1, 4))
        self.assertEqual(spans(PAIR, CROSSED, 3), {("b", 1): (0, 2), ("a", 1): (0, 2)})

    def test_no_renewings(self):
        for n in (0, 1, 5):
            self.assertEqual(spans(PAIR, {"a": [], "b": ()}, n), {})

    def test_the_least_and_the_greatest_of_all_numbers_that_the_ties_allow(self):
        for web, table in some_tables(9):
            many = len(renewings(web, table))
            if many > 4:
                continue
            for n in range(many + 2):
                choices = list(numbers_by_words(web, table, n))
                try:
                    found = spans(web, table, n)
                except (Ringed, TooFew):
                    self.assertEqual(choices, [])
                    continue
                self.assertEqual(list(found), renewings(web, table))
                for one, pair in found.items():
                    told = [lots[one] for lots in choices]
                    self.assertEqual(pair, (min(told), max(told)))
                    self.assertIsInstance(pair, tuple)

    def test_too_few(self):
        for n in range(4):
            check_raises(self, TooFew, n, lambda: spans(DRY, TABLE, n))
        check_raises(self, TooFew, 0, lambda: spans(PAIR, CROSSED, 0))
        self.assertEqual(len(spans(DRY, TABLE, 4)), 5)

    def test_no_numbers(self):
        for thing in any_objects() + [-1, -10 ** 20, True, False, "4", (4,)]:
            if isinstance(thing, int) and not isinstance(thing, bool) and thing >= 0:
                continue
            check_raises(self, BadNumber, thing, lambda: spans(DRY, TABLE, thing))

    def test_no_tables_and_rings_go_ahead(self):
        for n in (0, 4, -1, "4", None, True, []):
            check_bad_table(self, lambda web, table: spans(web, table, n))
            check_ringed(self, lambda web, table: spans(web, table, n))

    def test_arguments_by_name(self):
        self.assertEqual(spans(n=3, table=CROSSED, web=PAIR), {("b", 1): (0, 2), ("a", 1): (0, 2)})


class TestOneByOne(unittest.TestCase):
    def test_by_hand(self):
        self.assertEqual(one_by_one(DRY, TABLE), Program([["a"], ["c"], ["a"], ["b"], ["c"]]))
        web = Web([("c", []), ("a", []), ("b", [])])
        table = {"a": [(), ()], "b": [()], "c": [()]}
        self.assertEqual(one_by_one(web, table), Program([["c"], ["a"], ["a"], ["b"]]))
        self.assertEqual(one_by_one(PAIR, {"a": [], "b": []}), Program([]))
        self.assertEqual(one_by_one(PAIR, {"a": [(0,)], "b": [(1,)]}), Program([["a"], ["b"]]))

    def test_the_first_of_all(self):
        for web, table in some_tables(9):
            many = len(renewings(web, table))
            if many > 4:
                continue
            programs = [program_by_words(lots) for lots in numbers_by_words(web, table, many, alone=True)]
            rows = [[web.cells.index(lot[0]) for lot in program] for program in programs]
            try:
                found = one_by_one(web, table)
            except Ringed as error:
                self.assertEqual(rows, [])
                ring = error.ring
                self.assertIsInstance(ring, tuple)
                self.assertTrue(ring_by_words(web, table, list(ring), alone=True))
                self.assertIs(is_ring(web, table, ring, alone=True), True)
                continue
            self.assertEqual([web.cells.index(lot[0]) for lot in found], min(rows))
            self.assertEqual(table_of(web, found), {cell: tuple(table[cell]) for cell in web.cells})

    def test_cells_that_read_one_anothers_elder_versions(self):
        with self.assertRaises(Ringed) as held:
            one_by_one(PAIR, CROSSED)
        self.assertIn(held.exception.ring, [(("a", 1), ("b", 1)), (("b", 1), ("a", 1))])
        table = {"c": [(0,)], "b": [(0,)], "a": [(0,)]}
        with self.assertRaises(Ringed) as held:
            one_by_one(ROUND, table)
        self.assertEqual(sorted(held.exception.ring), [("a", 1), ("b", 1), ("c", 1)])
        self.assertIs(is_ring(ROUND, table, held.exception.ring), False)

    def test_a_cell_that_reads_its_own_elder_version(self):
        self.assertEqual(one_by_one(OWN, {"b": [(0, 0)], "a": [(0,)]}), Program([["b"], ["a"]]))

    def test_cells_that_read_their_own_elder_versions_and_one_anothers(self):
        for cells in ("ab", "ba"):
            web = Web([(cell, ["a", "b"]) for cell in cells])
            with self.assertRaises(Ringed) as held:
                one_by_one(web, {"a": [(0, 0)], "b": [(0, 0)]})
            self.assertEqual(sorted(held.exception.ring), [("a", 1), ("b", 1)])

    def test_a_ring_with_a_strict_tie_is_told_where_there_is_one(self):
        web = Web([("d", ["c"]), ("c", ["d"]), ("b", ["a"]), ("a", ["b"])])
        table = {"d": [(0,)], "c": [(0,)], "b": [(1,)], "a": [(1,)]}
        with self.assertRaises(Ringed) as held:
            one_by_one(web, table)
        self.assertIs(is_ring(web, table, held.exception.ring), True)
        check_ringed(self, one_by_one)

    def test_no_tables(self):
        check_bad_table(self, one_by_one)

    def test_arguments_by_name(self):
        self.assertEqual(one_by_one(table={"a": [(0,)], "b": []}, web=PAIR), Program([["a"]]))


if __name__ == "__main__":
    unittest.main()
