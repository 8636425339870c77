"""Promises [3], [4], [6], [10], [26] and [27]: the marks of sweeps, and least sweeps and their numbers."""

import itertools
import time
import unittest

from lotmarks.errors import BadMarks, MarkRing, NoSuch, NotSweep, UnknownCell, Unlike
from lotmarks.programs import Program
from lotmarks.sweeps import how_many, marks, number_of, sure, sweep_number, sweep_of
from lotmarks.versions import same
from lotmarks.webs import Web
from tests.sweeps import (
    MARKED, all_sweeps, check_bad_marks, check_mark_ring, drawn_marks, drawn_webs, least_by_words, lot_numbers,
    marks_by_words,
)
from tests.things import THREE, any_objects, check_lacking, check_raises

ARROWS = (("a", "b"), ("c", "b"), ("b", "a"), ("a", "a"))
NO_SWEEPS = [[], [["a"]], [["a", "b"]], [["a", "b"], ["c"], ["a"]], [["a", "b", "c"], ["a", "b", "c"]], [["b"], ["b"], ["b"]]]


class TestMarks(unittest.TestCase):
    def test_by_hand(self):
        for lots, expected in [
            ([["a", "b", "c"]], ("old", "old", "old", "old")),
            ([["a"], ["b"], ["c"]], ("new", "old", "old", "old")),
            ([["c"], ["b"], ["a"]], ("old", "new", "new", "old")),
            ([["c", "a"], ["b"]], ("new", "new", "old", "old")),
        ]:
            found = marks(MARKED, Program(lots))
            self.assertEqual(list(found.items()), list(zip(ARROWS, expected)))

    def test_by_words(self):
        for web in drawn_webs(30, 4):
            for lots in all_sweeps(list(web.cells)):
                found = marks(web, Program(lots))
                self.assertEqual(list(found.items()), list(marks_by_words(web, lots).items()))

    def test_two_sweeps_do_the_same_just_if_they_have_the_same_marks(self):
        for web in drawn_webs(25, 3):
            sweeps = [Program(lots) for lots in all_sweeps(list(web.cells))]
            for one, other in itertools.product(sweeps, repeat=2):
                self.assertIs(same(web, one, other), marks(web, one) == marks(web, other))

    def test_no_sweeps(self):
        for lots in NO_SWEEPS:
            with self.assertRaises(NotSweep) as held:
                marks(MARKED, Program(lots))
            self.assertEqual(vars(held.exception), {})
        check_lacking(self, lambda program: marks(THREE, program))

    def test_what_is_returned_is_new(self):
        program = Program([["c", "a"], ["b"]])
        marks(MARKED, program).clear()
        self.assertEqual(len(marks(MARKED, program)), 4)
        self.assertEqual(marks(program=program, web=MARKED), marks(MARKED, program))


class TestSweepOf(unittest.TestCase):
    def test_by_hand(self):
        for told, expected in [
            ({}, [["a", "b", "c"]]),
            ({("c", "b"): "new"}, [["a", "c"], ["b"]]),
            # As b still reads the elder worth of a, a stands no earlier than b.
            ({("c", "b"): "new", ("a", "b"): "old"}, [["c"], ["a", "b"]]),
            ({("b", "a"): "new", ("c", "b"): "old"}, [["b", "c"], ["a"]]),
            ({("b", "a"): "old", ("a", "b"): "new", ("a", "a"): "old"}, [["a", "c"], ["b"]]),
            ({("b", "a"): "new", ("c", "b"): "new"}, [["c"], ["b"], ["a"]]),
        ]:
            self.assertEqual(sweep_of(MARKED, told), Program(expected), told)

    def test_each_cell_stands_in_the_least_lot_of_all_sweeps_with_these_marks(self):
        for seed, web in enumerate(drawn_webs(60, 4)):
            sweeps = list(all_sweeps(list(web.cells)))
            for more in range(6):
                told = drawn_marks(web, 100 * seed + more, 0.15 * more)
                those = [lots for lots in sweeps if told.items() <= marks_by_words(web, lots).items()]
                if those:
                    found = sweep_of(web, told)
                    expected = {cell: min(lot_numbers(lots)[cell] for lots in those) for cell in web}
                    self.assertEqual(lot_numbers(found.lots), expected)
                    self.assertLessEqual(told.items(), marks(web, found).items())
                else:
                    check_mark_ring(self, told, lambda: sweep_of(web, told))

    def test_all_marks_of_a_sweep(self):
        for web in drawn_webs(30, 4):
            for lots in all_sweeps(list(web.cells)):
                told = marks_by_words(web, lots)
                backwards = dict(reversed(list(told.items())))
                found = sweep_of(web, told)
                self.assertEqual(marks(web, found), told)
                self.assertEqual(sweep_of(web, backwards), found)
                self.assertIs(same(web, found, Program(lots)), True)

    def test_rings_by_hand(self):
        told = {("a", "a"): "new"}
        self.assertEqual(check_mark_ring(self, told, lambda: sweep_of(MARKED, told)), (("a", "a"),))
        told = {("b", "a"): "new", ("a", "b"): "new", ("c", "b"): "new", ("a", "a"): "old"}
        found = check_mark_ring(self, told, lambda: sweep_of(MARKED, told))
        self.assertEqual(sorted(found), [("a", "b"), ("b", "a")])
        web = Web([("a", ["c"]), ("b", ["a", "c"]), ("c", [])])
        # a ahead of b, b not behind c, and c not behind a: the two old ones are turned round.
        told = {("a", "b"): "new", ("c", "b"): "old", ("c", "a"): "new"}
        found = check_mark_ring(self, told, lambda: sweep_of(web, told))
        self.assertEqual(sorted(found), [("a", "b"), ("c", "a"), ("c", "b")])

    def test_no_marks(self):
        check_bad_marks(self, lambda told: sweep_of(MARKED, told))
        check_bad_marks(self, lambda told: sweep_of(MARKED, {("b", "a"): "new", **told} if isinstance(told, dict) else told))
        with self.assertRaises(BadMarks):
            sweep_of(MARKED, {("a", "a"): "new", ("a", "b"): "now"})

    def test_the_marks_stay_and_arguments_by_name(self):
        told = {("b", "a"): "new", ("c", "b"): "old"}
        self.assertEqual(sweep_of(told=told, web=MARKED), Program([["b", "c"], ["a"]]))
        self.assertEqual(list(told.items()), [(("b", "a"), "new"), (("c", "b"), "old")])


class TestNumbers(unittest.TestCase):
    def test_by_hand(self):
        # As lists of the numbers of the cells: b is 0, a is 1, c is 2.
        expected = [
            Program(lots) for lots in
            ([["b", "a", "c"]], [["b", "c"], ["a"]], [["a"], ["b", "c"]], [["a", "c"], ["b"]], [["c"], ["b"], ["a"]],
             [["c"], ["b", "a"]])
        ]
        self.assertEqual(how_many(MARKED), 6)
        self.assertEqual([sweep_number(MARKED, k) for k in range(6)], expected)
        told = {("c", "b"): "old"}
        self.assertEqual(how_many(MARKED, told), 3)
        self.assertEqual([sweep_number(MARKED, k, told) for k in range(3)], expected[:3])
        self.assertEqual([number_of(MARKED, program, {("c", "b"): "new"}) for program in expected[3:]], [0, 1, 2])

    def test_by_words(self):
        for seed, web in enumerate(drawn_webs(50, 4)):
            leasts = least_by_words(web)
            for more in range(6):
                told = drawn_marks(web, 100 * seed + more, 0.1 * more) if more else None
                those = [
                    (lots, group) for lots, group in leasts
                    if told is None or told.items() <= marks_by_words(web, lots).items()
                ]
                self.assertEqual(how_many(web, told), len(those))
                for k, (lots, group) in enumerate(those):
                    self.assertEqual(sweep_number(web, k, told), Program(lots))
                    for other in group:
                        self.assertEqual(number_of(web, Program(other), told), k)
                for k in (len(those), len(those) + 1, 10 ** 20, -1):
                    check_raises(self, NoSuch, k, lambda: sweep_number(web, k, told))
                for lots, group in leasts:
                    if (lots, group) not in those:
                        with self.assertRaises(Unlike) as held:
                            number_of(web, Program(group[-1]), told)
                        self.assertEqual(vars(held.exception), {})

    def test_marks_that_no_sweep_has(self):
        for told in [{("a", "a"): "new"}, {("b", "a"): "new", ("a", "b"): "new"}]:
            self.assertEqual(how_many(MARKED, told), 0)
            check_raises(self, NoSuch, 0, lambda: sweep_number(MARKED, 0, told))
            with self.assertRaises(Unlike):
                number_of(MARKED, Program([["a", "b", "c"]]), told)

    def test_without_told_marks(self):
        for web in drawn_webs(10, 4):
            many = how_many(web)
            self.assertEqual((how_many(web, None), how_many(web, {}), how_many(web, told=None)), (many, many, many))
            for k in range(many):
                program = sweep_number(web, k)
                self.assertEqual((sweep_number(web, k, None), sweep_number(web, k, {})), (program, program))
                self.assertEqual([number_of(web, program), number_of(web, program, {})], [k, k])

    def test_one_cell_and_no_arrows(self):
        for rows in ([("a", [])], [("a", ["a"])], [(cell, []) for cell in "fedcba"]):
            web = Web(rows)
            self.assertEqual(how_many(web), 1)
            self.assertEqual(sweep_number(web, 0), Program([list(web.cells)]))

    def test_the_most_arrows(self):
        for cells in ("abcdef", "fbdace"):
            web = Web([(cell, list(cells)) for cell in cells])
            begin = time.monotonic()
            # Here each sweep is a least one: these are the ways to put six things into lots.
            self.assertEqual(how_many(web), 4683)
            self.assertEqual(number_of(web, Program([[cell] for cell in cells[::-1]])), 4682)
            for k in (0, 1, 2341, 4682):
                program = sweep_number(web, k)
                self.assertEqual(number_of(web, program), k)
                told = marks(web, program)
                self.assertEqual((how_many(web, told), sweep_number(web, 0, told)), (1, program))
                self.assertEqual(len(sure(web, told)), 36)
            self.assertEqual(sure(web, {}), {(cell, cell): "old" for cell in cells})
            self.assertLess(time.monotonic() - begin, 10)
        web = Web([(cell, list("abcdefg")) for cell in "abcdefg"])
        self.assertEqual(how_many(web), 47293)

    def test_no_numbers(self):
        for thing in any_objects() + [True, False, -1, 6, "0", (0,), [0]]:
            if isinstance(thing, int) and not isinstance(thing, bool) and 0 <= thing < how_many(MARKED):
                continue
            check_raises(self, NoSuch, thing, lambda: sweep_number(MARKED, thing))
            check_raises(self, NoSuch, thing, lambda: sweep_number(MARKED, thing, {}))

    def test_no_marks(self):
        program = Program([["a", "b", "c"]])
        for call in (
            lambda told: how_many(MARKED, told), lambda told: sweep_number(MARKED, 0, told),
            lambda told: sweep_number(MARKED, "k", told), lambda told: number_of(MARKED, program, told),
        ):
            check_bad_marks(self, call, none_is_one=False)
        check_bad_marks(self, lambda told: sure(MARKED, told))

    def test_no_sweeps(self):
        for lots in NO_SWEEPS:
            for told in (None, {}, {("a", "a"): "new"}, "told", {("a", "b"): 1}):
                with self.assertRaises(NotSweep):
                    number_of(MARKED, Program(lots), told)
        check_lacking(self, lambda program: number_of(THREE, program))
        check_lacking(self, lambda program: number_of(THREE, program, "told"))
        with self.assertRaises(UnknownCell):
            number_of(MARKED, Program([["a"], ["z"]]), None)

    def test_arguments_by_name(self):
        told = {("a", "b"): "old"}
        self.assertEqual(how_many(told=told, web=MARKED), how_many(MARKED, told))
        self.assertEqual(sweep_number(told=told, k=1, web=MARKED), sweep_number(MARKED, 1, told))
        self.assertEqual(sweep_number(k=1, web=MARKED), sweep_number(MARKED, 1))
        self.assertEqual(number_of(told=told, program=Program([["a", "b", "c"]]), web=MARKED), 0)
        self.assertEqual(sure(told=told, web=MARKED), sure(MARKED, told))


class TestSure(unittest.TestCase):
    def test_by_hand(self):
        self.assertEqual(sure(MARKED, {}), {("a", "a"): "old"})
        found = sure(MARKED, {("b", "a"): "new"})
        self.assertEqual(list(found.items()), [(("a", "b"), "old"), (("b", "a"), "new"), (("a", "a"), "old")])
        self.assertEqual(sure(MARKED, {("b", "a"): "old"}), {("b", "a"): "old", ("a", "a"): "old"})
        self.assertEqual(sure(Web([("a", []), ("b", [])]), {}), {})

    def test_marks_that_follow_along_a_path(self):
        web = Web([("c", ["b", "a"]), ("b", ["a"]), ("a", ["c"])])
        found = sure(web, {("b", "c"): "new", ("a", "b"): "new"})
        self.assertEqual(found, {("b", "c"): "new", ("a", "c"): "new", ("a", "b"): "new", ("c", "a"): "old"})

    def test_by_words(self):
        for seed, web in enumerate(drawn_webs(60, 4)):
            sweeps = list(all_sweeps(list(web.cells)))
            for more in range(5):
                told = drawn_marks(web, 1000 * seed + more, 0.15 * more)
                those = [marks_by_words(web, lots) for lots in sweeps]
                those = [found for found in those if told.items() <= found.items()]
                if not those:
                    check_mark_ring(self, told, lambda: sure(web, told))
                    continue
                expected = [(arrow, those[0][arrow]) for arrow in web.arrows if len({one[arrow] for one in those}) == 1]
                self.assertEqual(list(sure(web, told).items()), expected)

    def test_what_is_returned_is_new_and_what_is_told_stays(self):
        told = {("b", "a"): "new"}
        sure(MARKED, told).clear()
        self.assertEqual((told, len(sure(MARKED, told))), ({("b", "a"): "new"}, 3))

    def test_bad_marks_go_ahead_of_rings(self):
        with self.assertRaises(BadMarks):
            sure(MARKED, {("a", "a"): "new", ("z", "a"): "new"})
        with self.assertRaises(MarkRing):
            sure(MARKED, {("a", "a"): "new"})


if __name__ == "__main__":
    unittest.main()
