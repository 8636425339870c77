"""Promises [3], [4], [6], [9], [11], [12], [15] and [16]: what programs do by told rules."""

import itertools
import random
import unittest

from lotmarks.errors import BadWorth, UnknownCell
from lotmarks.programs import Program
from lotmarks.rules import Rules, first_unlike, rests, sinks
from lotmarks.versions import idle, kinds, needs, same
from lotmarks.webs import Web
from tests.things import (
    THREE, all_programs, any_objects, chance_programs, check_lacking, check_lacking_of_two, check_raises, no_lists,
    some_webs, without,
)

# By these rules c takes what a is worth, a takes c + a, less 3 if that is 3 or more, and b takes 2.
SUMS = {
    "c": [((worth,), worth) for worth in (1, 2)],
    "a": [((0, 1), 1), ((0, 2), 2), ((1, 0), 1), ((1, 1), 2), ((2, 0), 2), ((2, 2), 1)],
    "b": [((), 2)],
}

# Each cell takes the worth of the other one.
TURNS = Rules(Web([("b", ["a"]), ("a", ["b"])]), 2, {"a": [((1,), 1)], "b": [((1,), 1)]})


def chance_rules(web, worths, number):
    """Rules told by chance, for each number always the same ones."""
    chance = random.Random(number)
    tables = {}
    for cell in web.cells:
        reads = itertools.product(range(worths), repeat=len(web.sources(cell)))
        tables[cell] = [(read, chance.randrange(worths)) for read in reads]
    return Rules(web, worths, tables)


def all_beginnings(web, worths):
    return [dict(zip(web.cells, told)) for told in itertools.product(range(worths), repeat=len(web.cells))]


class TestRun(unittest.TestCase):
    def test_by_hand(self):
        rules = Rules(THREE, 3, SUMS)
        beginning = {"c": 1, "a": 1, "b": 0}
        for lots, expected in [
            ([], (1, 1, 0)),
            ([["a"]], (1, 2, 0)),
            ([["a"], ["c"]], (2, 2, 0)),
            ([["c"], ["a"]], (1, 2, 0)),
            ([["a"], ["c", "a"]], (2, 0, 0)),
            ([["a"], ["a"], ["b"], ["c"]], (0, 0, 2)),
            ([["a", "c", "b"], ["a", "c"]], (2, 0, 2)),
        ]:
            self.assertEqual(tuple(rules.run(Program(lots), beginning).values()), expected, lots)

    def test_all_cells_of_a_lot_read_before_any_takes_its_worth(self):
        beginning = {"b": 0, "a": 1}
        self.assertEqual(TURNS.run(Program([["a", "b"]]), beginning), {"b": 1, "a": 0})
        self.assertEqual(TURNS.run(Program([["a"], ["b"]]), beginning), {"b": 0, "a": 0})
        self.assertEqual(TURNS.run(Program([["b"], ["a"]]), beginning), {"b": 1, "a": 1})
        self.assertEqual(TURNS.run(Program([["a", "b"]]).times(3), beginning), {"b": 1, "a": 0})

    def test_the_dict_stands_in_the_order_of_the_web(self):
        rules = Rules(THREE, 3, SUMS)
        for cells in itertools.permutations("abc"):
            for lots in ([], [["a"]], [["b"], ["a", "c"]], [["a"], ["b"], ["c"]]):
                found = rules.run(Program(lots), {cell: 1 for cell in cells})
                self.assertIsInstance(found, dict)
                self.assertEqual(list(found), ["c", "a", "b"])
                self.assertEqual(found, rules.run(Program(lots), {"a": 1, "b": 1, "c": 1}))

    def test_rules_that_tell_nothing(self):
        rules = Rules(THREE, 3, {})
        self.assertEqual(rules.run(Program([["a"]]), {"c": 1, "a": 2, "b": 2}), {"c": 1, "a": 0, "b": 2})

    def test_what_is_passed_is_left_as_it_is(self):
        rules, program, beginning = Rules(THREE, 3, SUMS), Program([["a"], ["b"]]), {"b": 0, "a": 2, "c": 1}
        found = rules.run(program, beginning)
        self.assertEqual(list(beginning.items()), [("b", 0), ("a", 2), ("c", 1)])
        self.assertEqual((program, rules), (Program([["a"], ["b"]]), Rules(THREE, 3, SUMS)))
        found["a"] = 1
        found.pop("b")
        self.assertEqual(beginning, {"b": 0, "a": 2, "c": 1})
        self.assertEqual(rules.run(program, beginning), {"c": 1, "a": 0, "b": 2})
        self.assertIsNot(rules.run(Program([]), beginning), beginning)

    def test_one_program_and_then_the_other(self):
        for number, web in enumerate(some_webs(60)):
            rules = chance_rules(web, 3, number)
            programs = list(chance_programs(12, 5))
            for one, other in itertools.product(programs, repeat=2):
                beginning = all_beginnings(web, 3)[(number * 5) // 2]
                self.assertEqual(rules.run(other, rules.run(one, beginning)), rules.run(one + other, beginning))

    def test_each_lot_by_the_words(self):
        for number, web in enumerate(some_webs(30)):
            rules = chance_rules(web, 3, number)
            for beginning, cells in itertools.product(all_beginnings(web, 3)[::4], ["a", "b", "ac", "bc", "abc"]):
                expected = dict(beginning)
                for cell in cells:
                    expected[cell] = rules.tells(cell, [beginning[source] for source in web.sources(cell)])
                self.assertEqual(rules.run(Program([list(cells)]), beginning), expected)

    def test_alike_versions_are_worth_the_same(self):
        for number, web in enumerate(some_webs(45)):
            for program in chance_programs(15, 6):
                rules, beginning = chance_rules(web, 3, number), all_beginnings(web, 3)[number]
                worths = {cell: [beginning[cell]] for cell in "abc"}
                for many in range(1, len(program) + 1):
                    now = rules.run(Program(program.lots[:many]), beginning)
                    for cell in program.lots[many - 1]:
                        worths[cell].append(now[cell])
                for cell, row in kinds(web, program).items():
                    self.assertEqual([worths[cell][first] for first in row], worths[cell])

    def test_without_idle_renewings_all_is_the_same(self):
        for number, web in enumerate(some_webs(45)):
            rules = chance_rules(web, 3, number)
            for program in chance_programs(8, 8):
                self.assertIsNone(first_unlike(rules, program, without(program, idle(web, program))))

    def test_an_end_hangs_on_the_beginnings_that_it_needs_only(self):
        for number, web in enumerate(some_webs(45)):
            rules = chance_rules(web, 3, number)
            for program, cell in itertools.product(chance_programs(8, 4), "abc"):
                told = needs(web, program, cell)
                ends = {}
                for beginning in all_beginnings(web, 3):
                    kept = tuple(beginning[other] for other in told)
                    end = rules.run(program, beginning)[cell]
                    self.assertEqual(ends.setdefault(kept, end), end)

    def test_long_programs(self):
        cells = "abcdefg"
        web = Web([(cell, list(cells)) for cell in cells])
        rules = Rules(web, 12, {cell: [([at] * 7, (at + 1) // 2 * 2 % 11) for at in range(12)] for cell in cells})
        found = rules.run(Program([list(cells)] * 50).times(5), {cell: 1 for cell in cells})
        self.assertEqual(found, {cell: found["a"] for cell in cells})

    def test_arguments_by_name(self):
        self.assertEqual(TURNS.run(beginning={"a": 1, "b": 0}, program=Program([["b"]])), {"b": 1, "a": 1})


class TestWrongRuns(unittest.TestCase):
    rules = Rules(THREE, 3, SUMS)

    def test_cells_of_the_program_that_the_web_lacks(self):
        for beginning in ({"a": 0, "b": 0, "c": 0}, {}, {"zz": 0}, {"a": None}):
            check_lacking(self, lambda program: self.rules.run(program, beginning))

    def test_keys_that_are_no_cells(self):
        fine = {"a": 0, "b": 1, "c": 2}
        keys = [None, True, False, 0, 1, "", "A", "aa", "d", "abcdefghi", (), ("a",), ("a", "b"), ((),)]
        keys += [thing for thing in no_lists() if thing.__hash__ is not None and thing not in ("a",)]
        for key in keys:
            for beginning in ({key: 0}, {**fine, key: 0}, {key: None, **fine}, {"b": None, key: 0, "zzz": 0}):
                check_raises(self, UnknownCell, key, lambda: self.rules.run(Program([["a"]]), beginning))

    def test_the_first_key_by_the_dict(self):
        for keys in itertools.permutations(["a", "z", "d", None, 1]):
            first = [key for key in keys if key != "a"][0]
            check_raises(self, UnknownCell, first, lambda: self.rules.run(Program([]), {key: 0 for key in keys}))

    def check(self, cell, beginning):
        """What is no worth of a cell is told, whatever the order of the keys is, and nothing is changed."""
        for keys in itertools.permutations(beginning):
            told = {key: beginning[key] for key in keys}
            check_raises(self, BadWorth, cell, lambda: self.rules.run(Program([["b"]]), told))
            self.assertEqual(list(told), list(keys))
        self.assertEqual(self.rules, Rules(THREE, 3, SUMS))

    def test_cells_without_a_worth(self):
        self.check("c", {})
        self.check("c", {"a": 0, "b": 0})
        self.check("a", {"c": 0, "b": 0})
        self.check("b", {"c": 0, "a": 0})
        self.check("a", {"c": 0})
        self.check("c", {"b": 0})

    def test_worths_that_are_none(self):
        wrong = [thing for thing in any_objects() if type(thing) is not int] + [-1, 3, 4, 10 ** 30, (0,), [0]]
        for thing in wrong:
            self.check("c", {"a": 0, "b": 0, "c": thing})
            self.check("a", {"a": thing, "b": 0, "c": 0})
            self.check("b", {"a": 0, "b": thing, "c": 0})
            self.check("a", {"a": thing, "b": thing, "c": 0})
            self.check("c", {"a": thing, "b": thing})


class TestRests(unittest.TestCase):
    def test_by_hand(self):
        self.assertEqual(rests(TURNS), [{"b": 0, "a": 0}, {"b": 1, "a": 1}])
        self.assertEqual(rests(Rules(THREE, 3, SUMS)), [{"c": 0, "a": 0, "b": 2}])
        self.assertEqual(rests(Rules(THREE, 3, {})), [{"c": 0, "a": 0, "b": 0}])

    def test_none(self):
        self.assertEqual(rests(Rules(Web([("a", ["a"])]), 3, {"a": [((0,), 1), ((1,), 2)]})), [])
        self.assertEqual(rests(Rules(Web([("a", ["b"]), ("b", ["a"])]), 2, {"a": [((0,), 1)], "b": [((1,), 1)]})), [])

    def test_all(self):
        web = Web([("b", ["b"]), ("a", ["a"])])
        stay = [((worth,), worth) for worth in range(10)]
        found = rests(Rules(web, 10, {"a": stay, "b": stay}))
        self.assertEqual(found, [{"b": one, "a": other} for one in range(10) for other in range(10)])
        self.assertEqual([list(beginning) for beginning in found], [["b", "a"]] * 100)

    def test_one_worth(self):
        self.assertEqual(rests(Rules(THREE, 1, {})), [{"c": 0, "a": 0, "b": 0}])

    def test_they_ascend_by_the_worths_in_the_order_of_the_cells(self):
        for number, web in enumerate(some_webs(20)):
            found = rests(chance_rules(web, 4, number))
            rows = [tuple(beginning[cell] for cell in web.cells) for beginning in found]
            self.assertEqual(rows, sorted(set(rows)))
            self.assertEqual([list(beginning) for beginning in found], [list(web.cells)] * len(found))

    def test_they_stay_and_no_others_do(self):
        for number, web in enumerate(some_webs(20)):
            rules = chance_rules(web, 3, number)
            found = rests(rules)
            sweeps = [Program(lots) for lots in ([["a", "b", "c"]], [["c"], ["b"], ["a"]], [["b"], ["a", "c"]])]
            for program in list(chance_programs(5, 5)) + sweeps:
                staying = [told for told in all_beginnings(web, 3) if rules.run(program, told) == told]
                self.assertEqual([told for told in found if told in staying], found)
                if program in sweeps:
                    self.assertEqual(staying, found)

    def test_seven_cells(self):
        cells = "gfedcba"
        web = Web([(cell, [cells[at - 1]]) for at, cell in enumerate(cells)])
        rules = Rules(web, 2, {cell: [((1,), 1)] for cell in cells})
        self.assertEqual(rests(rules), [{cell: worth for cell in cells} for worth in (0, 1)])

    def test_what_is_returned_is_new(self):
        rests(TURNS)[0].clear()
        rests(TURNS).pop()
        self.assertEqual(rests(rules=TURNS), [{"b": 0, "a": 0}, {"b": 1, "a": 1}])


class TestFirstUnlike(unittest.TestCase):
    def test_by_hand(self):
        one, other, both = Program([["a"], ["b"]]), Program([["b"], ["a"]]), Program([["a", "b"]])
        self.assertEqual(first_unlike(TURNS, one, other), {"b": 0, "a": 1})
        self.assertEqual(first_unlike(TURNS, one, both), {"b": 0, "a": 1})
        self.assertEqual(first_unlike(TURNS, Program([["a"]]), Program([])), {"b": 0, "a": 1})
        rules = Rules(THREE, 3, SUMS)
        self.assertEqual(first_unlike(rules, Program([["b"]]), Program([])), {"c": 0, "a": 0, "b": 0})
        self.assertEqual(first_unlike(rules, Program([["a"]]), Program([])), {"c": 1, "a": 0, "b": 0})

    def test_none(self):
        rules = Rules(THREE, 3, SUMS)
        self.assertIsNone(first_unlike(rules, Program([["b"]]), Program([["b"], ["b"]])))
        self.assertIsNone(first_unlike(rules, Program([]), Program([])))
        # These do unlike things by other rules, though not by these.
        self.assertIsNone(first_unlike(Rules(THREE, 3, {}), Program([["a"]]), Program([["a"], ["a"]])))
        self.assertIsNone(first_unlike(Rules(THREE, 1, {}), Program([["a"]]), Program([])))

    def test_the_last_beginning_of_all(self):
        rules = Rules(Web([("b", ["b", "a"]), ("a", ["a"])]), 5, {
            "a": [((worth,), worth) for worth in range(5)],
            "b": [((one, other), one) for one in range(5) for other in range(5) if (one, other) != (4, 4)],
        })
        self.assertEqual(first_unlike(rules, Program([["b"]]), Program([])), {"b": 4, "a": 4})

    def test_it_is_the_first_one(self):
        for number, web in enumerate(some_webs(30)):
            rules = chance_rules(web, 3, number)
            for one, other in itertools.product(list(chance_programs(6, 4)), repeat=2):
                unlike = [told for told in all_beginnings(web, 3) if rules.run(one, told) != rules.run(other, told)]
                found = first_unlike(rules, one, other)
                self.assertEqual(found, unlike[0] if unlike else None)
                if unlike:
                    self.assertEqual(list(found), list(web.cells))

    def test_none_for_programs_that_do_the_same(self):
        for number, web in enumerate(some_webs(60)):
            rules = chance_rules(web, 3, number)
            for one, other in itertools.product(list(chance_programs(20, 3)), repeat=2):
                if same(web, one, other):
                    self.assertIsNone(first_unlike(rules, one, other))

    def test_what_is_returned_is_new(self):
        one, other = Program([["a"], ["b"]]), Program([["b"], ["a"]])
        first_unlike(TURNS, one, other)["a"] = 0
        self.assertEqual(first_unlike(other=one, rules=TURNS, one=other), {"b": 0, "a": 1})

    def test_cells_that_the_web_lacks(self):
        rules = Rules(THREE, 2, {})
        check_lacking_of_two(self, lambda one, other: first_unlike(rules, one, other))


class TestSinks(unittest.TestCase):
    def test_by_hand(self):
        low, one, two, high = [{"b": one, "a": other} for one in (0, 1) for other in (0, 1)]
        self.assertEqual(sinks(TURNS, Program([["a", "b"]])), [[low], [one, two], [high]])
        self.assertEqual(sinks(TURNS, Program([["a"]])), [[low], [high]])
        self.assertEqual(sinks(TURNS, Program([["b"], ["a"]])), [[low], [high]])

    def test_the_empty_program(self):
        self.assertEqual(sinks(Rules(THREE, 2, {}), Program([])), [[told] for told in all_beginnings(THREE, 2)])

    def test_each_is_followed_by_what_it_leads_to(self):
        web = Web([("a", ["a"])])
        for tail in itertools.permutations(range(1, 6)):
            ring = (0, *tail)
            rules = Rules(web, 7, {"a": [((ring[at - 1],), ring[at]) for at in range(6)] + [((6,), 3)]})
            self.assertEqual(sinks(rules, Program([["a"]])), [[{"a": worth} for worth in ring]])

    def test_rounds_ascend_by_their_first_ones(self):
        leads = {0: 1, 1: 5, 2: 7, 3: 3, 4: 2, 5: 8, 6: 3, 7: 4, 8: 5, 9: 9}
        rules = Rules(Web([("a", ["a"])]), 10, {"a": [((worth,), to) for worth, to in leads.items()]})
        found = [[told["a"] for told in row] for row in sinks(rules, Program([["a"]]))]
        self.assertEqual(found, [[2, 7, 4], [3], [5, 8], [9]])

    def test_a_round_of_all_beginnings(self):
        web = Web([("b", ["a", "b"]), ("a", ["a"])])
        rules = Rules(web, 10, {
            "a": [((worth,), (worth + 1) % 10) for worth in range(10)],
            "b": [((low, high), (high + (low == 9)) % 10) for low in range(10) for high in range(10)],
        })
        self.assertEqual(sinks(rules, Program([["a", "b"]])), [all_beginnings(web, 10)])

    def test_by_trying(self):
        for number, web in enumerate(some_webs(20)):
            rules = chance_rules(web, 3, number)
            for program in chance_programs(5, 4):
                every = all_beginnings(web, 3)
                found = sinks(rules, program)
                for row in found:
                    self.assertEqual(min(row, key=every.index), row[0])
                    self.assertEqual([rules.run(program, told) for told in row], row[1:] + row[:1])
                    self.assertEqual([list(told) for told in row], [list(web.cells)] * len(row))
                firsts = [every.index(row[0]) for row in found]
                self.assertEqual(firsts, sorted(set(firsts)))
                # After so many times one is within a round, and comes to each beginning of it.
                ends = [rules.run(program.times(27), told) for told in every]
                met = [told for row in found for told in row]
                self.assertEqual([told for told in every if told in met], [told for told in every if told in ends])

    def test_what_is_returned_is_new(self):
        program = Program([["a", "b"]])
        found = sinks(TURNS, program)
        found[0][0].clear()
        found[1].clear()
        found.pop()
        expected = [[{"b": 0, "a": 0}], [{"b": 0, "a": 1}, {"b": 1, "a": 0}], [{"b": 1, "a": 1}]]
        self.assertEqual(sinks(program=program, rules=TURNS), expected)
        self.assertIsInstance(found, list)
        self.assertIsInstance(found[0], list)

    def test_cells_that_the_web_lacks(self):
        rules = Rules(THREE, 2, {})
        check_lacking(self, lambda program: sinks(rules, program))

    def test_programs_that_do_the_same_have_the_same_sinks(self):
        for web in some_webs(100):
            rules = chance_rules(web, 2, 3)
            for one, other in itertools.combinations(list(all_programs("abc", 2)), 2):
                if same(web, one, other):
                    self.assertEqual(sinks(rules, one), sinks(rules, other))


if __name__ == "__main__":
    unittest.main()
