"""Promises [3], [6], [10], [12] and [25]: the least program of all that do the same."""

import itertools
import unittest

from lotmarks.programs import Program
from lotmarks.tables import least
from lotmarks.versions import idle, needed, reads, same
from lotmarks.webs import Web
from tests.things import (
    LATE, LATE_LOTS, THREE, all_programs, chance_programs, check_lacking, last_terms, some_webs, without,
)


class TestLeast(unittest.TestCase):
    def test_by_hand(self):
        web = Web([("c", ["a", "b"]), ("a", []), ("b", ["a"])])
        for lots, expected in [
            ([], []),
            ([["a"]], [["a"]]),
            ([["a"], ["a"]], [["a"]]),
            ([["b"], ["a"]], [["a", "b"]]),
            ([["b"], ["a"], ["c"]], [["a", "b"], ["c"]]),
            ([["c"], ["b"], ["a"]], [["a", "b", "c"]]),
            ([["a"], ["b"], ["c"]], [["a"], ["b"], ["c"]]),
            ([["a", "b", "c"], ["b"], ["a"], ["c"]], [["a"], ["b"], ["c"]]),
            ([["c"], ["a"], ["b"], ["c"], ["c"]], [["a"], ["b"], ["c"]]),
        ]:
            self.assertEqual(least(web, Program(lots)), Program(expected), lots)

    def test_renewings_move_to_the_least_lot(self):
        web = Web([(cell, []) for cell in "dcba"])
        self.assertEqual(least(web, Program([["d"], ["a"], ["c"], ["b"]])), Program([["a", "b", "c", "d"]]))
        web = Web([("b", ["a"]), ("a", ["a"]), ("c", ["b"])])
        self.assertEqual(least(web, Program([["a"], ["a"], ["c"], ["b"]])), Program([["a", "c"], ["a"], ["b"]]))

    def test_a_renewing_whose_elder_sources_are_still_to_be_read(self):
        web = Web([("b", ["a"]), ("a", ["b"])])
        self.assertEqual(least(web, Program([["a", "b"]])), Program([["a", "b"]]))
        self.assertEqual(least(web, Program([["b"], ["a"]])), Program([["b"], ["a"]]))

    def test_what_idle_renewings_stand_in_for(self):
        least_late = least(LATE, Program(LATE_LOTS))
        self.assertEqual(least_late.renewings(), len(needed(LATE, Program(LATE_LOTS))))
        self.assertIs(same(LATE, least_late, Program(LATE_LOTS)), True)

    def test_it_does_the_same_with_the_needed_renewings_only(self):
        for web in some_webs(19):
            for program in chance_programs(40, 7):
                found = least(web, program)
                self.assertIsInstance(found, Program)
                self.assertEqual(last_terms(web, found), last_terms(web, program))
                told = needed(web, program)
                self.assertEqual(found.renewings(), len(told))
                for cell in web:
                    self.assertEqual(sum(cell in lot for lot in found), sum(pair[0] == cell for pair in told))
                self.assertEqual(least(web, found), found)
                self.assertEqual(idle(web, found), [])
                self.assertLessEqual(len(found), len(without(program, idle(web, program))))

    def test_no_program_that_does_the_same_has_fewer_renewings_or_lots(self):
        programs = list(all_programs("ab", 4))
        for sources in itertools.product([[], ["a"], ["b"], ["b", "a"]], repeat=2):
            web = Web(list(zip("ba", sources)))
            groups = {}
            for program in programs:
                groups.setdefault(tuple(sorted(last_terms(web, program).items())), []).append(program)
            leasts = []
            for group in groups.values():
                found = {least(web, program).lots for program in group}
                self.assertEqual(len(found), 1)
                leasts.append(Program(list(found.pop())))
                self.assertEqual(leasts[-1].renewings(), min(program.renewings() for program in group))
                self.assertEqual(len(leasts[-1]), min(len(program) for program in group))
            self.assertEqual(len({program.lots for program in leasts}), len(leasts))

    def test_two_programs_do_the_same_just_if_their_least_ones_are_equal(self):
        programs = list(all_programs("abc", 2)) + list(chance_programs(25, 5))
        for web in some_webs(101):
            told = [(least(web, program), last_terms(web, program)) for program in programs]
            for one, other in itertools.combinations(told, 2):
                self.assertEqual(one[0] == other[0], one[1] == other[1])

    def test_each_renewing_stands_in_the_least_lot(self):
        # What stands in no least lot could go one lot earlier: so there are versions, or readers, that keep it there.
        for web in some_webs(67):
            for program in chance_programs(15, 6):
                found = least(web, program)
                rows = reads(web, found)
                for lot, cell, number, versions in rows:
                    if lot > 0:
                        earlier = [list(cells) for cells in found.lots]
                        earlier[lot].remove(cell)
                        stays = cell in earlier[lot - 1]
                        earlier[lot - 1] += [] if stays else [cell]
                        moved = Program([cells for cells in earlier if cells])
                        ties = [other for other in found.lots[lot] if other != cell and cell in web.sources(other)]
                        self.assertTrue(stays or ties or not same(web, moved, found))

    def test_long_programs(self):
        web = Web([(cell, ["a", "b", "c"]) for cell in "abc"])
        program = Program([["a"], ["b"], ["c"], ["a", "c"]]).times(12)
        found = least(web, program)
        self.assertIs(same(web, program, found), True)
        self.assertEqual(found.renewings(), len(needed(web, program)))

    def test_arguments_by_name_and_cells_that_the_web_lacks(self):
        self.assertEqual(least(program=Program([["a"], ["a"]]), web=Web([("a", [])])), Program([["a"]]))
        check_lacking(self, lambda program: least(THREE, program))


if __name__ == "__main__":
    unittest.main()
