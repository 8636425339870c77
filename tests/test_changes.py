"""Promises [3], [4], [6], [10], [15], [31] and [32]: lots that are changed, and sweeps that lead to an end."""

import itertools
import random
import unittest

from lotmarks.changes import dropped, joined, swapped, sweeps_seen
from lotmarks.errors import BadWorth, NoLot, UnknownCell
from lotmarks.programs import Program
from lotmarks.rules import Rules
from lotmarks.sweeps import how_many, sweep_number
from lotmarks.webs import Web
from tests.sweeps import drawn_webs
from tests.things import (
    THREE, all_programs, any_objects, chance_programs, check_lacking, check_raises, last_terms, no_lists, some_webs,
)

# b reads a, a and c read nothing.
WEB = Web([("b", ["a"]), ("a", []), ("c", [])])
LOTS = [["a"], ["c"], ["b"], ["a", "c"]]


def joined_by_words(lots, i):
    both = list(lots[i]) + list(lots[i + 1])
    return None if len(set(both)) < len(both) else list(lots[:i]) + [both] + list(lots[i + 2:])


def swapped_by_words(lots, i):
    return list(lots[:i]) + [lots[i + 1], lots[i]] + list(lots[i + 2:])


def dropped_by_words(lots, i, cell):
    return [rest for rest in (*lots[:i], [told for told in lots[i] if told != cell], *lots[i + 1:]) if rest]


class TestChanges(unittest.TestCase):
    def check(self, web, program, lots, found):
        """Of some lots comes a program just if it does the same."""
        expected = None
        if lots is not None and last_terms(web, Program(lots)) == last_terms(web, program):
            expected = Program(lots)
        self.assertEqual(found, expected)

    def test_joined_by_hand(self):
        program = Program(LOTS)
        self.assertEqual(joined(WEB, program, 0), Program([["a", "c"], ["b"], ["a", "c"]]))
        self.assertEqual(joined(WEB, program, 1), Program([["a"], ["b", "c"], ["a", "c"]]))
        self.assertEqual(joined(WEB, program, 2), Program([["a"], ["c"], ["a", "b", "c"]]))
        self.assertIsNone(joined(WEB, Program([["a"], ["b"]]), 0))
        self.assertEqual(program, Program(LOTS))

    def test_a_cell_that_would_stand_in_a_lot_twice(self):
        # With c once less it would do the same.
        self.assertIsNone(joined(WEB, Program([["c"], ["c"]]), 0))
        self.assertIsNone(joined(WEB, Program([["b"], ["a", "c"], ["c"]]), 1))
        self.assertEqual(joined(WEB, Program([["b"], ["a", "c"], ["c"]]), 0), Program([["a", "b", "c"], ["c"]]))

    def test_swapped_by_hand(self):
        program = Program(LOTS)
        self.assertEqual(swapped(WEB, program, 0), Program([["c"], ["a"], ["b"], ["a", "c"]]))
        self.assertEqual(swapped(WEB, program, 1), Program([["a"], ["b"], ["c"], ["a", "c"]]))
        self.assertEqual(swapped(WEB, program, 2), Program([["a"], ["c"], ["a", "c"], ["b"]]))
        self.assertIsNone(swapped(WEB, Program([["a"], ["b"]]), 0))
        self.assertIsNone(swapped(WEB, Program([["b"], ["c", "a"]]), 0))
        self.assertEqual(swapped(WEB, Program([["c"], ["c"]]), 0), Program([["c"], ["c"]]))

    def test_dropped_by_hand(self):
        program = Program(LOTS)
        self.assertEqual(dropped(WEB, program, 3, "a"), Program([["a"], ["c"], ["b"], ["c"]]))
        self.assertEqual(dropped(WEB, program, 3, "c"), Program([["a"], ["c"], ["b"], ["a"]]))
        self.assertEqual(dropped(WEB, program, 1, "c"), Program([["a"], ["b"], ["a", "c"]]))
        self.assertIsNone(dropped(WEB, program, 0, "a"))
        self.assertIsNone(dropped(WEB, program, 2, "b"))
        self.assertIsNone(dropped(WEB, Program([["a"]]), 0, "a"))
        self.assertEqual(dropped(WEB, Program([["a"], ["a"]]), 0, "a"), Program([["a"]]))
        self.assertEqual(program, Program(LOTS))

    def test_by_words(self):
        for web in some_webs(61):
            for program in list(all_programs("abc", 2)) + list(chance_programs(30, 5)):
                lots = program.lots
                for i in range(len(lots)):
                    if i + 1 < len(lots):
                        self.check(web, program, joined_by_words(lots, i), joined(web, program, i))
                        self.check(web, program, swapped_by_words(lots, i), swapped(web, program, i))
                    for cell in lots[i]:
                        self.check(web, program, dropped_by_words(lots, i, cell), dropped(web, program, i, cell))

    def test_arguments_by_name(self):
        program = Program([["a"], ["c"]])
        self.assertEqual(joined(i=0, program=program, web=WEB), Program([["a", "c"]]))
        self.assertEqual(swapped(i=0, program=program, web=WEB), Program([["c"], ["a"]]))
        self.assertIsNone(dropped(cell="a", i=0, program=program, web=WEB))


class TestWrongChanges(unittest.TestCase):
    def test_no_lots(self):
        numbers = [-1, -2, 4, 5, 10 ** 20, True, False, "0", (0,), None]
        program = Program(LOTS)
        for thing in any_objects() + numbers:
            good = isinstance(thing, int) and not isinstance(thing, bool)
            if not (good and 0 <= thing < 3):
                check_raises(self, NoLot, thing, lambda: joined(WEB, program, thing))
                check_raises(self, NoLot, thing, lambda: swapped(WEB, program, thing))
            if not (good and 0 <= thing < 4):
                for cell in ("a", "z", None):
                    check_raises(self, NoLot, thing, lambda: dropped(WEB, program, thing, cell))
        self.assertEqual(program, Program(LOTS))

    def test_the_last_lot(self):
        check_raises(self, NoLot, 3, lambda: joined(WEB, Program(LOTS), 3))
        check_raises(self, NoLot, 3, lambda: swapped(WEB, Program(LOTS), 3))
        self.assertEqual(dropped(WEB, Program(LOTS), 3, "c").renewings(), 4)
        for call in (joined, swapped):
            check_raises(self, NoLot, 0, lambda: call(WEB, Program([["a"]]), 0))
            check_raises(self, NoLot, 0, lambda: call(WEB, Program([]), 0))
        check_raises(self, NoLot, 0, lambda: dropped(WEB, Program([]), 0, "a"))

    def test_a_cell_that_is_not_in_the_lot(self):
        for thing in any_objects() + ["b", "c", "z", "aa", ("a",), ["a"]]:
            if not isinstance(thing, str) or thing != "a":
                check_raises(self, UnknownCell, thing, lambda: dropped(WEB, Program(LOTS), 0, thing))

    def test_cells_that_the_web_lacks(self):
        for i in (0, 7, None, True):
            check_lacking(self, lambda program: joined(THREE, program, i))
            check_lacking(self, lambda program: swapped(THREE, program, i))
            for cell in ("a", None, "z"):
                check_lacking(self, lambda program: dropped(THREE, program, i, cell))


def drawn_rules(web, worths, seed):
    chance = random.Random(seed)
    tables = {}
    for cell in web.cells:
        reads = itertools.product(range(worths), repeat=len(web.sources(cell)))
        tables[cell] = [(read, chance.randrange(worths)) for read in reads]
    return Rules(web, worths, tables)


class TestSweepsSeen(unittest.TestCase):
    def test_by_hand(self):
        # Each takes the worth of the other one.
        turns = Rules(Web([("b", ["a"]), ("a", ["b"])]), 2, {"a": [((1,), 1)], "b": [((1,), 1)]})
        begin = {"b": 0, "a": 1}
        for end, lots in [
            ({"b": 1, "a": 0}, [[["a", "b"]]]), ({"a": 1, "b": 1}, [[["b"], ["a"]]]), ({"b": 0, "a": 0}, [[["a"], ["b"]]]),
            ({"b": 0, "a": 1}, []),
        ]:
            self.assertEqual(sweeps_seen(turns, begin, end), [Program(told) for told in lots])
        still = {"b": 1, "a": 1}
        self.assertEqual(
            sweeps_seen(turns, still, still), [Program([["b"], ["a"]]), Program([["a", "b"]]), Program([["a"], ["b"]])]
        )

    def test_all_least_sweeps_in_their_order(self):
        for seed, web in enumerate(drawn_webs(30, 4)):
            worths = 2 if len(web) > 3 else 3
            rules = drawn_rules(web, worths, seed)
            chance = random.Random(seed)
            sweeps = [sweep_number(web, k) for k in range(how_many(web))]
            for _ in range(8):
                begin = {cell: chance.randrange(worths) for cell in web}
                end = rules.run(chance.choice(sweeps), begin)
                other = {cell: chance.randrange(worths) for cell in reversed(web.cells)}
                for told in (end, begin, other):
                    expected = [sweep for sweep in sweeps if rules.run(sweep, begin) == told]
                    self.assertEqual(sweeps_seen(rules, begin, told), expected)

    def test_all_sweeps_lead_to_one_end(self):
        for web in drawn_webs(10, 4):
            rules, end = Rules(web, 1, {}), {cell: 0 for cell in web}
            found = sweeps_seen(rules, end, end)
            self.assertEqual(found, [sweep_number(web, k) for k in range(how_many(web))])

    def test_the_most_arrows(self):
        cells = "fbdace"
        web = Web([(cell, list(cells)) for cell in cells])
        rules = Rules(web, 2, {cell: [((1, 0, 0, 0, 0, 0), 1)] for cell in cells})
        begin = {cell: 1 if cell == "f" else 0 for cell in cells}
        for end in ({cell: 1 for cell in cells}, {cell: 0 for cell in cells}, {**begin, "b": 1}):
            for sweep in sweeps_seen(rules, begin, end)[::97]:
                self.assertEqual(rules.run(sweep, begin), end)
        found = sweeps_seen(rules, begin, {cell: 1 for cell in cells})
        self.assertEqual(found, [Program([["f"], list("bdace")]), Program([list(cells)])])

    def test_wrong_beginnings_and_ends(self):
        rules = Rules(THREE, 2, {})
        good = {"c": 0, "a": 1, "b": 0}
        for wrong in [thing for thing in no_lists() if not isinstance(thing, int) or isinstance(thing, bool)] + [2, -1]:
            for cell in good:
                told = {**good, cell: wrong}
                check_raises(self, BadWorth, cell, lambda: sweeps_seen(rules, told, good))
                check_raises(self, BadWorth, cell, lambda: sweeps_seen(rules, good, told))
                check_raises(self, BadWorth, cell, lambda: sweeps_seen(rules, told, {"z": 0}))
        for cell in good:
            less = {other: good[other] for other in good if other != cell}
            check_raises(self, BadWorth, cell, lambda: sweeps_seen(rules, less, good))
            check_raises(self, BadWorth, cell, lambda: sweeps_seen(rules, good, less))
        for key in ["z", "", 0, None, ("a",), True]:
            told = {**good, key: 5, "y": 0}
            check_raises(self, UnknownCell, key, lambda: sweeps_seen(rules, told, good))
            check_raises(self, UnknownCell, key, lambda: sweeps_seen(rules, good, told))
            check_raises(self, UnknownCell, key, lambda: sweeps_seen(rules, told, {"x": 0}))
        check_raises(self, BadWorth, "c", lambda: sweeps_seen(rules, {}, {"x": 0}))
        self.assertEqual(good, {"c": 0, "a": 1, "b": 0})

    def test_what_is_returned_is_new_and_arguments_by_name(self):
        rules, still = Rules(WEB, 1, {}), {"a": 0, "b": 0, "c": 0}
        sweeps_seen(rules, still, still).clear()
        self.assertEqual(len(sweeps_seen(end=still, beginning=still, rules=rules)), how_many(WEB))


if __name__ == "__main__":
    unittest.main()
