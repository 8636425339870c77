"""Promises [3], [4], [6] and [13]: programs that are done again and again."""

import itertools
import unittest

from lotmarks.errors import BadNumber, UnknownCell
from lotmarks.programs import Program
from lotmarks.rounds import alike_at, settles
from lotmarks.versions import same
from lotmarks.webs import Web, ring
from tests.things import (
    THREE, all_programs, any_objects, chance_programs, check_lacking, check_lacking_of_two, check_raises, last_terms,
    some_webs,
)

CHAIN = Web([("a", []), ("b", ["a"]), ("c", ["b"]), ("d", ["c", "a"])])


class TestSettles(unittest.TestCase):
    def test_by_hand(self):
        self.assertEqual(settles(CHAIN, Program([["a"], ["b"], ["c"], ["d"]])), 1)
        self.assertEqual(settles(CHAIN, Program([["d"], ["c"], ["b"], ["a"]])), 4)
        self.assertEqual(settles(CHAIN, Program([["a", "b", "c", "d"]])), 4)
        self.assertEqual(settles(CHAIN, Program([["b"], ["a"], ["d", "c"]])), 3)
        self.assertEqual(settles(CHAIN, Program([["b", "d"], ["c"]])), 2)
        self.assertEqual(settles(CHAIN, Program([["c"]])), 1)

    def test_the_empty_program(self):
        for web in (THREE, CHAIN, Web([("a", ["a"])])):
            self.assertEqual((settles(web, Program([])), type(settles(web, Program([])))), (0, int))

    def test_a_ring_among_the_cells_of_the_program(self):
        self.assertIsNone(settles(Web([("a", ["a"])]), Program([["a"]])))
        web = Web([("a", ["c"]), ("b", ["a"]), ("c", ["b"])])
        for lots in ([["a", "b", "c"]], [["a"], ["b"], ["c"]], [["c"], ["b"], ["a"]], [["a"], ["b", "c"], ["b"]]):
            self.assertIsNone(settles(web, Program(lots)))
        for one, other in itertools.permutations("abc", 2):
            self.assertIn(settles(web, Program([[one], [other]])), (1, 2))

    def test_small_programs(self):
        for web, program in itertools.product(some_webs(9), all_programs("abc", 2)):
            cells = program.renewed()
            found = settles(web, program)
            if ring(web, cells) is not None:
                self.assertIsNone(found)
                continue
            self.assertLessEqual(found, len(cells))
            ends = [last_terms(web, program.times(many)) for many in range(len(cells) + 2)]
            self.assertEqual(found, [many for many in range(len(cells) + 1) if ends[many] == ends[many + 1]][0])

    def test_none_of_the_first_ones_where_there_is_a_ring(self):
        for web, program in itertools.product(some_webs(40), all_programs("abc", 2)):
            if settles(web, program) is None:
                for many in range(5):
                    self.assertIs(same(web, program.times(many), program.times(many + 1)), False)

    def test_long_programs(self):
        cells = "abcdefg"
        web = Web([(cell, list(cells[:at])) for at, cell in enumerate(cells)])
        self.assertEqual(settles(web, Program([[cell] for cell in reversed(cells)])), 7)
        self.assertEqual(settles(web, Program([[cell] for cell in cells * 7])), 1)
        self.assertEqual(settles(web, Program([["g"], ["f", "e"], ["d"], ["c"], ["b"], ["a"]])), 7)

    def test_arguments_by_name(self):
        self.assertEqual(settles(program=Program([["d", "c"]]), web=CHAIN), 2)

    def test_cells_that_the_web_lacks(self):
        check_lacking(self, lambda program: settles(THREE, program))
        # The first lot goes ahead of what would come first among the cells.
        check_raises(self, UnknownCell, "z", lambda: settles(THREE, Program([["z"], ["d"], ["a"]])))


class TestAlikeAt(unittest.TestCase):
    def test_by_hand(self):
        one, other = Program([["a", "b"]]), Program([["a"], ["b"]])
        web = Web([("a", []), ("b", ["a"])])
        self.assertEqual(alike_at(web, one, other, 5), [0, 2, 3, 4, 5])
        self.assertEqual(alike_at(web, one, other, 1), [0])
        self.assertEqual(alike_at(web, one, other, 0), [0])
        together, behind = Program([["d", "c", "b", "a"]]), Program([["a"], ["b"], ["c"], ["d"]])
        self.assertEqual(alike_at(CHAIN, together, behind, 5), [0, 4, 5])

    def test_programs_that_do_the_same(self):
        for most in range(6):
            for program in (Program([]), Program([["a"], ["b", "c"]])):
                self.assertEqual(alike_at(THREE, program, program, most), list(range(most + 1)))

    def test_programs_that_never_do_the_same_but_at_0(self):
        web = Web([("a", ["a"])])
        self.assertEqual(alike_at(web, Program([["a"]]), Program([["a"], ["a"]]), 5), [0])
        self.assertEqual(alike_at(web, Program([]), Program([["a"]]), 5), [0])

    def test_chance_programs(self):
        for web in some_webs(60):
            for one, other in itertools.product(list(chance_programs(12, 3)), repeat=2):
                ends = [last_terms(web, one.times(many)) == last_terms(web, other.times(many)) for many in range(3)]
                self.assertEqual(alike_at(web, one, other, 2), [many for many in range(3) if ends[many]])

    def test_long_programs(self):
        cells = "abcdefg"
        web = Web([(cell, list(cells)) for cell in cells])
        program = Program([list(cells)] * 50)
        self.assertEqual(alike_at(web, program, program, 5), [0, 1, 2, 3, 4, 5])
        self.assertEqual(alike_at(web, program, program + Program([["a"]]), 5), [0])

    def test_the_list_is_new(self):
        one, other = Program([["a"]]), Program([["b"]])
        alike_at(THREE, one, other, 3).clear()
        self.assertEqual(alike_at(THREE, one, other, 3), [0])

    def test_arguments_by_name(self):
        self.assertEqual(alike_at(most=2, other=Program([["b"], ["b"]]), one=Program([["b"]]), web=THREE), [0, 1, 2])

    def test_no_number_from_zero_on(self):
        wrong = [thing for thing in any_objects() if type(thing) is not int] + [-1, -2, -10 ** 30]
        for thing in wrong:
            check_raises(self, BadNumber, thing, lambda: alike_at(THREE, Program([["a"]]), Program([["b"]]), thing))
            check_raises(self, BadNumber, thing, lambda: alike_at(THREE, Program([]), Program([]), most=thing))

    def test_cells_that_the_web_lacks_go_ahead_of_the_number(self):
        for most in (0, 5, -1, None, True, "a", []):
            check_lacking_of_two(self, lambda one, other: alike_at(THREE, one, other, most))


if __name__ == "__main__":
    unittest.main()
