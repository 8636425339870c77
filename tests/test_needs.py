"""Promises [3], [4], [6], [11] and [12]: what comes into what, and the renewings that a program needs."""

import itertools
import unittest

from lotmarks.errors import UnknownCell
from lotmarks.programs import Program
from lotmarks.versions import depth, idle, needed, needs, reads, same, ways
from lotmarks.webs import Web
from tests.things import (
    LATE, LATE_LOTS, THREE, all_programs, any_objects, chance_programs, check_lacking, check_raises, last_terms,
    some_webs, terms, without,
)

SQUARES = Web([("b", ["a"]), ("a", ["a", "b"])])


def term_depth(term):
    return 0 if isinstance(term, str) else 1 + max([term_depth(part) for part in term[1:]], default=0)


def term_cells(term):
    """The cells whose beginnings stand in a term, as often as they do."""
    return [term] if isinstance(term, str) else [cell for part in term[1:] for cell in term_cells(part)]


class TestDepth(unittest.TestCase):
    def test_by_hand(self):
        program = Program(LATE_LOTS)
        self.assertEqual([depth(LATE, program, cell) for cell in "zyx"], [3, 2, 1])
        self.assertEqual([depth(THREE, Program([["a", "c"], ["b"], ["c"]]), cell) for cell in "cab"], [2, 1, 1])

    def test_a_cell_that_is_never_renewed(self):
        self.assertEqual([depth(THREE, Program([]), cell) for cell in "abc"], [0, 0, 0])
        self.assertEqual(depth(THREE, Program([["a"], ["b"]]), "c"), 0)

    def test_a_cell_without_sources(self):
        self.assertEqual([depth(THREE, Program([["b"]] * many), "b") for many in range(4)], [0, 1, 1, 1])

    def test_a_cell_that_is_its_own_source(self):
        web = Web([("a", ["a"])])
        for many in range(51):
            self.assertEqual(depth(web, Program([["a"]] * many), "a"), many)

    def test_the_greatest_one_counts_not_the_last(self):
        web = Web([("a", ["b", "c"]), ("b", ["b"]), ("c", ["c"])])
        for one, other in (("b", "c"), ("c", "b")):
            self.assertEqual(depth(web, Program([[one], [one], [one], [other], ["a"]]), "a"), 4)

    def test_small_programs(self):
        for web, program in itertools.product(some_webs(23), all_programs("abc", 2)):
            told = last_terms(web, program)
            for cell in "abc":
                self.assertEqual(depth(web, program, cell), term_depth(told[cell]))


class TestWays(unittest.TestCase):
    def test_by_hand(self):
        # The numbers of ways into a are those of Fibonacci.
        for many, number in enumerate([1, 1, 2, 3, 5, 8, 13, 21, 34]):
            self.assertEqual(ways(SQUARES, Program([["a", "b"]] * many), "a", "a"), number)
            self.assertEqual(ways(SQUARES, Program([["a", "b"]] * (many + 1)), "a", "b"), number)
        self.assertEqual(ways(SQUARES, Program([["a"], ["b"], ["a"]]), "b", "a"), 2)
        self.assertEqual(ways(SQUARES, Program([["a"], ["b"], ["a"]]), "b", "b"), 1)

    def test_a_cell_that_is_never_renewed(self):
        for program in (Program([]), Program([["a"]]), Program([["a"], ["b"], ["a"]])):
            self.assertEqual([ways(THREE, program, cell, "c") for cell in "abc"], [0, 0, 1])

    def test_a_cell_without_sources(self):
        self.assertEqual([ways(THREE, Program([]), cell, "b") for cell in "abc"], [0, 1, 0])
        self.assertEqual([ways(THREE, Program([["b"]]), cell, "b") for cell in "abc"], [0, 0, 0])

    def test_begin_and_end_are_not_exchanged(self):
        web = Web([("a", []), ("b", ["a"])])
        self.assertEqual(ways(web, Program([["b"]]), "a", "b"), 1)
        self.assertEqual(ways(web, Program([["b"]]), "b", "a"), 0)

    def test_numbers_of_any_size(self):
        cells = "abcdefg"
        web = Web([(cell, list(cells)) for cell in cells])
        for program, many in [(Program([list(cells)] * 50), 50), (Program([list(cells)] * 50).times(5), 250)]:
            self.assertEqual(ways(web, program, "a", "g"), 7 ** (many - 1))
            self.assertEqual(depth(web, program, "d"), many)
            self.assertEqual(needs(web, program, "b"), tuple(cells))

    def test_small_programs(self):
        for web, program in itertools.product(some_webs(23), all_programs("abc", 2)):
            told = last_terms(web, program)
            for begin, end in itertools.product("abc", repeat=2):
                self.assertEqual(ways(web, program, begin, end), term_cells(told[end]).count(begin))


class TestNeeds(unittest.TestCase):
    def test_by_hand(self):
        self.assertEqual(needs(THREE, Program([["a"]]), "a"), ("c", "a"))
        self.assertEqual(needs(THREE, Program([["c"]]), "c"), ("a",))
        self.assertEqual(needs(THREE, Program([["a"], ["c"]]), "c"), ("c", "a"))
        self.assertEqual(needs(LATE, Program(LATE_LOTS), "z"), ())
        self.assertEqual(needs(LATE, Program([["y"], ["x"], ["z"]]), "z"), ("x",))

    def test_a_cell_that_is_never_renewed(self):
        self.assertEqual([needs(THREE, Program([]), cell) for cell in "abc"], [("a",), ("b",), ("c",)])

    def test_the_order_is_that_of_the_cells(self):
        for cells in itertools.permutations("abc"):
            for sources in itertools.permutations("abc"):
                web = Web([(cell, list(sources)) for cell in cells])
                self.assertEqual(needs(web, Program([["b"]]), "b"), cells)

    def test_small_programs(self):
        for web, program in itertools.product(some_webs(23), all_programs("abc", 2)):
            told = last_terms(web, program)
            for cell in "abc":
                there = term_cells(told[cell])
                found = needs(web, program, cell)
                self.assertEqual(found, tuple(other for other in web.cells if other in there))
                self.assertIsInstance(found, tuple)


class TestCells(unittest.TestCase):
    """The errors of depth, ways and needs, and their arguments by name."""

    def test_things_that_are_no_cells_go_ahead_of_the_program(self):
        web = Web([("b", []), ("d", ["b"])])
        wrong = [thing for thing in any_objects() if thing not in web]
        for program in (Program([["b"]]), Program([["zz"]]), Program([])):
            for thing in wrong:
                for call in (lambda: depth(web, program, thing), lambda: needs(web, program, thing),
                             lambda: ways(web, program, thing, "b"), lambda: ways(web, program, "b", thing),
                             lambda: ways(web, program, thing, "zzz"), lambda: ways(web, program, thing, None)):
                    check_raises(self, UnknownCell, thing, call)

    def test_of_two_cells_the_first_goes_ahead(self):
        wrong = [None, True, 0, -1, "", "aa", "A", [], ["a"], ("a",), {}, THREE, Program([["a"]])]
        for one, other in itertools.permutations(wrong, 2):
            check_raises(self, UnknownCell, one, lambda: ways(THREE, Program([["zz"]]), one, other))

    def test_cells_of_the_program_that_the_web_lacks(self):
        check_lacking(self, lambda program: depth(THREE, program, "a"))
        check_lacking(self, lambda program: ways(THREE, program, "b", "a"))
        check_lacking(self, lambda program: needs(THREE, program, "c"))

    def test_arguments_by_name(self):
        program = Program([["a"], ["c"]])
        self.assertEqual(depth(cell="c", program=program, web=THREE), 2)
        self.assertEqual(ways(end="c", begin="a", program=program, web=THREE), 1)
        self.assertEqual(ways(THREE, program, end="b", begin="a"), 0)
        self.assertEqual(needs(cell="c", web=THREE, program=program), ("c", "a"))


def wanted_by_definition(web, program):
    """The versions, as pairs, that are needed: those that the words of the promise lead to, step by step."""
    told = terms(web, program)
    versions = {(row[1], row[2]): list(zip(web.sources(row[1]), row[3])) for row in reads(web, program)}
    found = {(cell, len(row) - 1) for cell, row in told.items()}
    while True:
        more = {pair for one in found for pair in versions.get(one, [])}
        for cell, number in found:
            more |= {(cell, at) for at, term in enumerate(told[cell]) if term == told[cell][number]}
        if more <= found:
            return found
        found |= more


class TestNeeded(unittest.TestCase):
    def test_by_hand(self):
        program = Program(LATE_LOTS)
        self.assertEqual(needed(LATE, program), [("x", 1), ("y", 3), ("z", 1)])
        self.assertEqual(idle(LATE, program), [("y", 1), ("y", 2), ("x", 2), ("z", 2)])

    def test_the_order_is_that_of_reads(self):
        self.assertEqual(needed(THREE, Program([["a", "b", "c"]])), [("c", 1), ("a", 1), ("b", 1)])
        lots = [["a", "b", "c"], ["c", "b"], ["a", "c"]]
        self.assertEqual(needed(THREE, Program(lots)), [("a", 1), ("b", 1), ("c", 2), ("a", 2)])
        self.assertEqual(idle(THREE, Program(lots)), [("c", 1), ("b", 2), ("c", 3)])
        web = Web([("b", []), ("a", []), ("c", [])])
        self.assertEqual(idle(web, Program([["a", "b", "c"]] * 2)), [("b", 2), ("a", 2), ("c", 2)])

    def test_the_empty_program(self):
        self.assertEqual((needed(THREE, Program([])), idle(THREE, Program([]))), ([], []))

    def test_cells_without_sources(self):
        program = Program([["b"]] * 3)
        self.assertEqual((needed(THREE, program), idle(THREE, program)), ([("b", 1)], [("b", 2), ("b", 3)]))

    def test_a_cell_that_is_its_own_source(self):
        web = Web([("a", ["a"])])
        self.assertEqual(needed(web, Program([["a"]] * 4)), [("a", 1), ("a", 2), ("a", 3), ("a", 4)])
        self.assertEqual(idle(web, Program([["a"]] * 4)), [])

    def test_what_only_idle_renewings_read_is_idle(self):
        web = Web([("a", []), ("b", ["a"]), ("c", ["b"])])
        program = Program([["b"], ["c"], ["a"], ["b"], ["c"]])
        self.assertEqual(needed(web, program), [("a", 1), ("b", 2), ("c", 2)])
        self.assertEqual(idle(web, program), [("b", 1), ("c", 1)])

    def test_what_an_alike_version_reads(self):
        # The last version of a is alike to its first one, which reads b as it is from the first lot on.
        web = Web([("a", ["b"]), ("b", []), ("c", ["a"])])
        program = Program([["b"], ["a"], ["b"], ["a"], ["c"]])
        self.assertEqual(needed(web, program), [("b", 1), ("a", 1), ("c", 1)])
        self.assertEqual(idle(web, program), [("b", 2), ("a", 2)])

    def test_what_kinds_of_things_are_told(self):
        for found in (needed(LATE, Program(LATE_LOTS)), idle(LATE, Program(LATE_LOTS))):
            self.assertIsInstance(found, list)
            for pair in found:
                self.assertIsInstance(pair, tuple)
                self.assertEqual([type(part) for part in pair], [str, int])

    def check(self, web, program):
        """needed tells what the words lead to, and it and idle tell each renewing once, in order."""
        told = terms(web, program)
        found = wanted_by_definition(web, program)
        pairs = [row[1:3] for row in reads(web, program)]
        first = [pair for pair in pairs if told[pair[0]].index(told[pair[0]][pair[1]]) == pair[1]]
        expected = [pair for pair in first if pair in found]
        self.assertEqual(needed(web, program), expected)
        self.assertEqual(idle(web, program), [pair for pair in pairs if pair not in expected])

    def test_small_programs(self):
        for web, program in itertools.product(some_webs(23), all_programs("abc", 2)):
            self.check(web, program)

    def test_longer_programs(self):
        for rows in ([("c", ["a"]), ("a", ["c"]), ("b", [])], [("c", ["a", "b"]), ("b", ["a"]), ("a", [])],
                     [("b", []), ("a", ["b"]), ("c", ["c", "a"])], [("b", ["a", "c"]), ("a", []), ("c", [])]):
            for program in chance_programs(60, 9):
                self.check(Web(rows), program)

    def test_without_idle_renewings_and_without_one_more(self):
        webs = some_webs(40) + [Web([("c", ["b", "a"]), ("b", ["a"]), ("a", [])])]
        for web, program in itertools.product(webs, list(chance_programs(30, 8))):
            rest, kept = idle(web, program), needed(web, program)
            self.assertIs(same(web, program, without(program, rest)), True)
            for pair in kept:
                self.assertIs(same(web, program, without(program, rest + [pair])), False)

    def test_no_program_that_does_the_same_has_fewer_renewings(self):
        sources = [some for many in range(3) for some in itertools.combinations("ab", many)]
        for ahead, behind in itertools.product(sources, repeat=2):
            web = Web([("b", ahead), ("a", behind)])
            fewest = {}
            for program in all_programs("ab", 5):
                end = tuple(last_terms(web, program).items())
                fewest[end] = min(fewest.get(end, 99), program.renewings())
            for program in all_programs("ab", 3):
                self.assertEqual(len(needed(web, program)), fewest[tuple(last_terms(web, program).items())])

    def test_long_programs(self):
        cells = "abcdefg"
        web = Web([(cell, list(cells)) for cell in cells])
        program = Program([list(cells)] * 50).times(5)
        self.assertEqual((len(needed(web, program)), len(idle(web, program))), (250 * 7, 0))
        settled = Web([(cell, list(cells[:at])) for at, cell in enumerate(cells)])
        self.assertEqual((len(needed(settled, program)), len(idle(settled, program))), (7, 250 * 7 - 7))

    def test_the_lists_are_new(self):
        program = Program(LATE_LOTS)
        needed(LATE, program).clear()
        idle(LATE, program).append(("x", 1))
        self.assertEqual(needed(LATE, program), [("x", 1), ("y", 3), ("z", 1)])
        self.assertEqual(idle(LATE, program), [("y", 1), ("y", 2), ("x", 2), ("z", 2)])

    def test_arguments_by_name(self):
        program = Program([["b"], ["b"]])
        self.assertEqual(needed(program=program, web=THREE), [("b", 1)])
        self.assertEqual(idle(program=program, web=THREE), [("b", 2)])

    def test_cells_that_the_web_lacks(self):
        check_lacking(self, lambda program: needed(THREE, program))
        check_lacking(self, lambda program: idle(THREE, program))


if __name__ == "__main__":
    unittest.main()
