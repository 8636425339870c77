"""Promises [2], [3], [4] and [6]: programs and sweeps."""

import itertools
import unittest

from lotmarks.errors import BadNumber, BadProgram, UnknownCell
from lotmarks.programs import Program, is_sweep
from lotmarks.webs import Web
from tests.things import THREE, EqualToAll, any_objects, check_equal, check_lacking, nested, no_lists, no_names

LOTS = [["c", "a"], ["b"], ["c", "b", "a"], ["b"]]
SORTED = (("a", "c"), ("b",), ("a", "b", "c"), ("b",))


def small_programs():
    """The lots of all programs of up to three lots of the cells a and b, and of some with c."""
    choices = [["a"], ["b"], ["b", "a"], ["c", "a"]]
    for many in range(4):
        for lots in itertools.product(choices, repeat=many):
            yield list(lots)


class TestParts(unittest.TestCase):
    def test_lots_are_ascending_tuples_in_their_order(self):
        program = Program(LOTS)
        self.assertEqual(program.lots, SORTED)
        self.assertIsInstance(program.lots, tuple)
        self.assertTrue(all(isinstance(lot, tuple) for lot in program.lots))

    def test_names_in_any_order(self):
        for lot in itertools.permutations(["b", "ab", "a", "abcdefgh"]):
            self.assertEqual(Program([list(lot)]).lots, (("a", "ab", "abcdefgh", "b"),))

    def test_the_empty_program(self):
        for lots in ([], ()):
            program = Program(lots)
            self.assertEqual((program.lots, len(program), list(program)), ((), 0, []))
            self.assertEqual((program.renewings(), program.renewed()), (0, ()))

    def test_number_of_lots(self):
        self.assertEqual([len(Program(LOTS[:many])) for many in range(5)], [0, 1, 2, 3, 4])

    def test_a_walk_gives_the_lots(self):
        program = Program(LOTS)
        self.assertEqual(list(program), list(SORTED))
        self.assertEqual([lot for lot in program], list(SORTED))
        self.assertEqual(len([one + other for one in program for other in program]), 16)

    def test_renewings(self):
        self.assertEqual([Program(LOTS[:many]).renewings() for many in range(5)], [0, 2, 3, 6, 7])

    def test_renewed(self):
        self.assertEqual(Program(LOTS).renewed(), ("a", "b", "c"))
        self.assertEqual(Program([["z"], ["b", "m"], ["a"], ["z"]]).renewed(), ("a", "b", "m", "z"))
        self.assertIsInstance(Program(LOTS).renewed(), tuple)

    def test_small_programs(self):
        for lots in small_programs():
            program = Program(lots)
            self.assertEqual(program.lots, tuple(tuple(sorted(lot)) for lot in lots))
            self.assertEqual(len(program), len(lots))
            self.assertEqual(program.renewings(), len([cell for lot in lots for cell in lot]))
            self.assertEqual(program.renewed(), tuple(sorted({cell for lot in lots for cell in lot})))

    def test_lists_and_tuples_in_each_place(self):
        for outer, inner in itertools.product((list, tuple), repeat=2):
            self.assertEqual(Program(outer(inner(lot) for lot in LOTS)).lots, SORTED)
        self.assertEqual(Program((["b", "a"], ("c", "b"))).lots, (("a", "b"), ("b", "c")))

    def test_many_lots(self):
        program = Program([["b", "a"]] * 50)
        self.assertEqual((len(program), program.renewings(), program.lots), (50, 100, (("a", "b"),) * 50))


class TestCopies(unittest.TestCase):
    def test_what_the_caller_changes_afterwards(self):
        lots = [["b", "a"], ["c"]]
        program = Program(lots)
        lots[0].append("d")
        lots[1].clear()
        lots.append(["e"])
        self.assertEqual(program.lots, (("a", "b"), ("c",)))
        self.assertEqual((len(program), program.renewings(), program.renewed()), (2, 3, ("a", "b", "c")))
        self.assertEqual(program, Program([["a", "b"], ["c"]]))

    def test_what_is_passed_is_left_as_it_is(self):
        lots = [["c", "a"], ["b"]]
        Program(lots)
        self.assertEqual(lots, [["c", "a"], ["b"]])

    def test_lists_that_a_walk_gives_are_new(self):
        program = Program(LOTS)
        list(program).clear()
        self.assertEqual(list(program), list(SORTED))

    def test_arguments_by_name(self):
        program = Program(lots=LOTS)
        self.assertEqual(program, Program(LOTS))
        self.assertEqual(program.times(n=2), Program(LOTS + LOTS))

    def test_one_program_does_not_disturb_another(self):
        one, other = Program(LOTS), Program([["a"]])
        self.assertEqual((one.lots, other.lots), (SORTED, (("a",),)))


class TestBadProgram(unittest.TestCase):
    def check(self, lots, index):
        with self.assertRaises(BadProgram) as held:
            Program(lots)
        self.assertEqual(held.exception.index, index)
        self.assertEqual(type(held.exception.index), int)
        self.assertEqual(type(held.exception), BadProgram)

    def check_lot(self, lot):
        """A wrong lot is told with its index wherever it stands."""
        self.check([lot], 0)
        self.check((lot,), 0)
        self.check([lot, ["a"]], 0)
        self.check([["a"], lot], 1)
        self.check([["a"], ["b", "a"], lot, [], ["a"]], 2)

    def test_no_list(self):
        for thing in no_lists():
            self.check(thing, 0)

    def test_a_lot_that_is_no_list(self):
        for thing in no_lists():
            self.check_lot(thing)

    def test_an_empty_lot(self):
        self.check_lot([])
        self.check_lot(())

    def test_a_name_twice(self):
        for lot in [["a", "a"], ("a", "a"), ["a", "b", "a"], ["b", "a", "a"], ["c", "c", "a"]]:
            self.check_lot(lot)

    def test_no_names(self):
        for thing in no_names():
            self.check_lot([thing])
            self.check_lot(("a", thing))
            self.check_lot([thing, "a"])

    def test_lots_one_level_too_deep(self):
        self.check_lot([["a"]])
        self.check_lot(nested(5000))
        self.check(["a", "b"], 0)
        self.check([["a"], "b"], 1)

    def test_the_first_wrong_lot_is_told(self):
        self.check([["a"], ["b", "b"], [], None], 1)
        self.check([["a"], [], ["b", "b"], None], 1)
        self.check([["a"], ["a"], None, []], 2)


class TestTimes(unittest.TestCase):
    def test_from_zero_on(self):
        program = Program(LOTS)
        for n in range(6):
            self.assertEqual(program.times(n).lots, SORTED * n)
            self.assertIsInstance(program.times(n), Program)

    def test_the_program_stays(self):
        program = Program(LOTS)
        program.times(0)
        program.times(3)
        self.assertEqual(program.lots, SORTED)

    def test_the_empty_program(self):
        self.assertEqual([Program([]).times(n) for n in range(3)], [Program([])] * 3)

    def test_no_number_from_zero_on(self):
        program = Program(LOTS)
        wrong = [thing for thing in any_objects() if isinstance(thing, bool) or not isinstance(thing, int)]
        for thing in wrong + [-1, -2, -10 ** 30]:
            for times in (lambda: program.times(thing), lambda: program.times(n=thing)):
                with self.assertRaises(BadNumber) as held:
                    times()
                self.assertIs(held.exception.number, thing)
                self.assertEqual(type(held.exception), BadNumber)
        self.assertEqual(program, Program(LOTS))


class TestPlus(unittest.TestCase):
    def test_the_one_and_then_the_other(self):
        one, other = Program([["b", "a"], ["c"]]), Program([["c"], ["a"]])
        both = one + other
        self.assertIsInstance(both, Program)
        self.assertEqual(both.lots, (("a", "b"), ("c",), ("c",), ("a",)))
        self.assertEqual((other + one).lots, (("c",), ("a",), ("a", "b"), ("c",)))

    def test_what_is_put_together_stays(self):
        one, other = Program([["b", "a"]]), Program([["c"]])
        one + other
        self.assertEqual((one.lots, other.lots), ((("a", "b"),), (("c",),)))
        held = one
        one += other
        self.assertEqual((held.lots, one.lots), ((("a", "b"),), (("a", "b"), ("c",))))

    def test_the_empty_program(self):
        program = Program(LOTS)
        self.assertEqual(program + Program([]), program)
        self.assertEqual(Program([]) + program, program)

    def test_with_itself(self):
        program = Program(LOTS)
        self.assertEqual(program + program, program.times(2))
        self.assertEqual(program + program + program, program.times(3))

    def test_small_programs(self):
        for one, other in itertools.product(itertools.islice(small_programs(), 30), repeat=2):
            self.assertEqual(Program(one) + Program(other), Program(one + other))

    def test_other_kinds(self):
        for thing in [None, 1, [["a"]], (("a",),), "a", Web([("a", [])])]:
            with self.assertRaises(TypeError):
                Program(LOTS) + thing
            with self.assertRaises(TypeError):
                thing + Program(LOTS)


class TestEqual(unittest.TestCase):
    def test_the_same_lots(self):
        check_equal(self, Program(LOTS), Program(LOTS), True)
        check_equal(self, Program(LOTS), Program(SORTED), True)
        check_equal(self, Program([["a", "b"]]), Program([["b", "a"]]), True)
        check_equal(self, Program([]), Program(()), True)

    def test_small_programs(self):
        made = [Program(lots) for lots in small_programs()]
        for at, one in enumerate(made):
            for past, other in enumerate(made):
                if (one == other) is not (at == past) or (one != other) is (at == past):
                    self.fail((at, past))

    def test_other_lots(self):
        check_equal(self, Program([["a", "b"]]), Program([["a"], ["b"]]), False)
        check_equal(self, Program([["a"], ["b"]]), Program([["b"], ["a"]]), False)
        check_equal(self, Program([["a"]]), Program([["a"], ["a"]]), False)
        check_equal(self, Program([["a"]]), Program([["b"]]), False)
        check_equal(self, Program([["ab"]]), Program([["a", "b"]]), False)
        check_equal(self, Program([]), Program([["a"]]), False)

    def test_things_of_other_kinds(self):
        others = [thing for thing in any_objects() if not isinstance(thing, Program)]
        for program in (Program([]), Program([["a"]]), Program(LOTS)):
            parts = [program.lots, list(program), [["a"]], (("a",),), Web([("a", [])])]
            for thing in others + parts:
                check_equal(self, program, thing, False)

    def test_things_that_are_equal_to_everything(self):
        self.assertIs(Program(LOTS) == EqualToAll(), False)


class TestIsSweep(unittest.TestCase):
    web = THREE

    def test_sweeps(self):
        for lots in [[["a", "b", "c"]], [["c"], ["b"], ["a"]], [["b", "a"], ["c"]], [["a"], ["c", "b"]]]:
            self.assertIs(is_sweep(self.web, Program(lots)), True)
        self.assertIs(is_sweep(Web([("a", [])]), Program([["a"]])), True)

    def test_a_cell_lacks(self):
        for lots in [[], [["a"]], [["a", "b"]], [["c"], ["b"]], [["b"]]]:
            self.assertIs(is_sweep(self.web, Program(lots)), False)

    def test_a_cell_stands_twice(self):
        for lots in [[["a", "b", "c"], ["a"]], [["b"], ["a"], ["c"], ["b"]], [["a", "b", "c"], ["a", "b", "c"]]]:
            self.assertIs(is_sweep(self.web, Program(lots)), False)

    def test_one_twice_and_another_one_not(self):
        for lots in [[["a"], ["a"], ["b"]], [["a", "b"], ["b"]], [["c"], ["c"], ["c"]]]:
            self.assertIs(is_sweep(self.web, Program(lots)), False)

    def test_small_programs(self):
        for lots in small_programs():
            cells = sorted(cell for lot in lots for cell in lot)
            self.assertIs(is_sweep(self.web, Program(lots)), cells == ["a", "b", "c"])

    def test_the_first_cell_that_the_web_lacks(self):
        check_lacking(self, lambda program: is_sweep(THREE, program))

    def test_arguments_by_name(self):
        self.assertIs(is_sweep(program=Program([["c", "b", "a"]]), web=self.web), True)
        self.assertIs(is_sweep(self.web, program=Program([])), False)

    def test_nothing_is_changed(self):
        program = Program([["a"], ["z"]])
        with self.assertRaises(UnknownCell):
            is_sweep(self.web, program)
        is_sweep(self.web, Program([["a"]]))
        self.assertEqual(program, Program([["a"], ["z"]]))
        self.assertEqual(self.web, Web([("c", ["a"]), ("a", ["c", "a"]), ("b", [])]))


if __name__ == "__main__":
    unittest.main()
