"""Promises [1], [3], [4] and [5]: webs."""

import itertools
import unittest

from lotmarks.errors import BadWeb, LotError, UnknownCell
from lotmarks.programs import Program
from lotmarks.webs import Web
from tests.things import (
    WRONG_NAMES, EqualToAll, any_objects, check_equal, nested, no_lists, no_names, small_webs,
)

ROWS = [("c", ["b", "c", "a"]), ("a", []), ("d", ["c"]), ("b", ["d", "a"])]


class TestParts(unittest.TestCase):
    def test_cells_in_the_order_of_the_rows(self):
        web = Web(ROWS)
        self.assertEqual(web.cells, ("c", "a", "d", "b"))
        self.assertIsInstance(web.cells, tuple)

    def test_arrows_by_cells_and_then_by_sources(self):
        arrows = (("b", "c"), ("c", "c"), ("a", "c"), ("c", "d"), ("d", "b"), ("a", "b"))
        web = Web(ROWS)
        self.assertEqual(web.arrows, arrows)
        self.assertIsInstance(web.arrows, tuple)
        self.assertTrue(all(isinstance(arrow, tuple) for arrow in web.arrows))

    def test_sources_in_their_order(self):
        web = Web(ROWS)
        self.assertEqual([web.sources(cell) for cell in "abcd"], [(), ("d", "a"), ("b", "c", "a"), ("c",)])

    def test_targets_in_the_order_of_the_cells(self):
        web = Web(ROWS)
        self.assertEqual([web.targets(cell) for cell in "abcd"], [("c", "b"), ("c",), ("c", "d"), ("b",)])

    def test_one_cell(self):
        alone, own = Web([("abcdefgh", [])]), Web([("a", ["a"])])
        self.assertEqual((alone.cells, alone.arrows), (("abcdefgh",), ()))
        self.assertEqual((alone.sources("abcdefgh"), alone.targets("abcdefgh")), ((), ()))
        self.assertEqual((own.cells, own.arrows), (("a",), (("a", "a"),)))
        self.assertEqual((own.sources("a"), own.targets("a")), (("a",), ("a",)))

    def test_all_small_webs(self):
        for rows in small_webs():
            web = Web(rows)
            told = dict(rows)
            self.assertEqual(web.cells, ("b", "a", "c"))
            self.assertEqual(web.arrows, tuple((source, cell) for cell in "bac" for source in told[cell]))
            for cell in "abc":
                self.assertEqual(web.sources(cell), tuple(told[cell]))
                self.assertEqual(web.targets(cell), tuple(other for other in "bac" if cell in told[other]))

    def test_many_cells_and_arrows(self):
        cells = "gfedcba"
        web = Web([(cell, list(reversed(cells))) for cell in cells])
        self.assertEqual((len(web), len(web.arrows)), (7, 49))
        self.assertEqual(web.targets("a"), tuple(cells))
        self.assertEqual(web.sources("g"), tuple("abcdefg"))

    def test_names_of_one_to_eight_letters(self):
        for name in ("a", "z", "az", "abcdefgh", "zzzzzzzz", "m", "none", "self"):
            self.assertEqual(Web([(name, [name])]).cells, (name,))

    def test_lists_and_tuples_in_each_place(self):
        for outer, row, inner in itertools.product((list, tuple), repeat=3):
            web = Web(outer(row((cell, inner(sources))) for cell, sources in ROWS))
            self.assertEqual(web, Web(ROWS))
            self.assertEqual(web.arrows, Web(ROWS).arrows)
            self.assertIsInstance(web.sources("c"), tuple)
            self.assertIsInstance(web.targets("c"), tuple)
            self.assertIsInstance(web.cells, tuple)

    def test_kinds_may_be_mixed(self):
        web = Web((["a", ("b",)], ("b", ["a", "b"])))
        self.assertEqual(web.arrows, (("b", "a"), ("a", "b"), ("b", "b")))


class TestCopies(unittest.TestCase):
    def test_what_the_caller_changes_afterwards(self):
        rows = [["a", ["b"]], ["b", ["a", "b"]]]
        web = Web(rows)
        rows[0][1].append("a")
        rows[1][1].clear()
        rows[1][0] = "c"
        rows.append(["d", []])
        self.assertEqual(web, Web([("a", ["b"]), ("b", ["a", "b"])]))
        self.assertEqual((web.cells, len(web), list(web)), (("a", "b"), 2, ["a", "b"]))
        self.assertEqual(web.arrows, (("b", "a"), ("a", "b"), ("b", "b")))
        self.assertEqual((web.sources("a"), web.sources("b")), (("b",), ("a", "b")))
        self.assertEqual((web.targets("a"), web.targets("b")), (("b",), ("a", "b")))
        self.assertNotIn("c", web)

    def test_what_is_passed_is_left_as_it_is(self):
        rows = [["b", ["b", "a"]], ["a", []]]
        Web(rows)
        self.assertEqual(rows, [["b", ["b", "a"]], ["a", []]])

    def test_lists_that_a_walk_gives_are_new(self):
        web = Web(ROWS)
        list(web).clear()
        self.assertEqual(list(web), ["c", "a", "d", "b"])

    def test_one_web_does_not_disturb_another(self):
        one, other = Web(ROWS), Web([("a", ["a"])])
        self.assertEqual((one.cells, other.cells), (("c", "a", "d", "b"), ("a",)))
        self.assertEqual((one.sources("a"), other.sources("a")), ((), ("a",)))

    def test_arguments_by_name(self):
        web = Web(rows=ROWS)
        self.assertEqual(web, Web(ROWS))
        self.assertEqual(web.sources(cell="b"), ("d", "a"))
        self.assertEqual(web.targets(cell="a"), ("c", "b"))


class TestIn(unittest.TestCase):
    def test_its_cells(self):
        web = Web(ROWS)
        for cell in "abcd":
            self.assertIs(cell in web, True)
            self.assertIs(cell not in web, False)
        self.assertIn("".join(["ab", "c"]), Web([("abc", [])]))

    def test_any_other_object(self):
        web = Web([("b", []), ("c", ["b"])])
        for thing in no_names() + no_lists() + ["a", "bb", "bc", "d", "abcdefgh"]:
            self.assertIs(thing in web, False)
            self.assertIs(thing not in web, True)

    def test_the_web_itself_and_its_parts(self):
        web = Web(ROWS)
        for thing in [web, web.cells, web.arrows, web.arrows[0], ROWS, ROWS[0], ["a"], ("a",), {"a": []}]:
            self.assertIs(thing in web, False)


class TestWalk(unittest.TestCase):
    def test_number_of_cells(self):
        self.assertEqual([len(Web([("a", [])])), len(Web(ROWS)), len(Web(ROWS[1:2] + [("b", ["a"])]))], [1, 4, 2])

    def test_walks_give_the_cells_in_order(self):
        web = Web(ROWS)
        self.assertEqual(list(web), ["c", "a", "d", "b"])
        self.assertEqual([cell for cell in web], ["c", "a", "d", "b"])
        self.assertEqual(list(web), list(web.cells))

    def test_walks_within_one_another(self):
        web = Web([("b", []), ("a", [])])
        self.assertEqual([one + other for one in web for other in web], ["bb", "ba", "ab", "aa"])


class TestEqual(unittest.TestCase):
    def test_the_same_rows(self):
        check_equal(self, Web(ROWS), Web(ROWS), True)
        check_equal(self, Web(ROWS), Web(tuple((cell, tuple(sources)) for cell, sources in ROWS)), True)
        web = Web(ROWS)
        check_equal(self, web, web, True)

    def test_all_small_webs(self):
        webs = [Web(rows) for rows in small_webs()]
        for at, one in enumerate(webs):
            for past, other in enumerate(webs):
                if (one == other) is not (at == past) or (one != other) is (at == past):
                    self.fail((at, past))

    def test_another_order_of_the_cells(self):
        check_equal(self, Web([("a", []), ("b", [])]), Web([("b", []), ("a", [])]), False)
        check_equal(self, Web([("a", ["b"]), ("b", [])]), Web([("b", []), ("a", ["b"])]), False)

    def test_another_order_of_the_sources(self):
        check_equal(self, Web([("a", ["a", "b"]), ("b", [])]), Web([("a", ["b", "a"]), ("b", [])]), False)

    def test_other_cells(self):
        check_equal(self, Web([("a", [])]), Web([("b", [])]), False)
        check_equal(self, Web([("a", ["a"])]), Web([("b", ["b"])]), False)
        check_equal(self, Web([("a", [])]), Web([("a", []), ("b", [])]), False)
        check_equal(self, Web([("a", ["a"])]), Web([("a", ["a"]), ("b", [])]), False)

    def test_other_sources(self):
        check_equal(self, Web([("a", []), ("b", ["a"])]), Web([("a", []), ("b", [])]), False)
        check_equal(self, Web([("a", []), ("b", ["a"])]), Web([("a", []), ("b", ["b"])]), False)
        check_equal(self, Web([("a", ["a"]), ("b", [])]), Web([("a", []), ("b", ["a"])]), False)

    def test_things_of_other_kinds(self):
        web = Web([("a", [])])
        others = [thing for thing in any_objects() if not isinstance(thing, Web)]
        parts = [web.cells, web.arrows, list(web), [("a", [])], {"a": ()}, (("a", ()),), Program([["a"]])]
        for thing in others + parts:
            check_equal(self, web, thing, False)

    def test_things_that_are_equal_to_everything(self):
        self.assertIs(Web(ROWS) == EqualToAll(), False)


class TestBadWeb(unittest.TestCase):
    def check(self, rows, index):
        with self.assertRaises(BadWeb) as held:
            Web(rows)
        self.assertEqual(held.exception.index, index)
        self.assertEqual(type(held.exception.index), int)
        self.assertEqual(type(held.exception), BadWeb)

    def check_row(self, row):
        """A wrong row is told with its index wherever it stands."""
        self.check([row], 0)
        self.check((row,), 0)
        self.check([row, ("b", [])], 0)
        self.check([("x", []), row], 1)
        self.check([("x", []), ("y", ["x"]), row, ("b", [])], 2)
        self.check([("x", []), row, row, ()], 1)

    def test_no_list(self):
        for thing in no_lists():
            self.check(thing, 0)

    def test_no_rows(self):
        self.check([], 0)
        self.check((), 0)

    def test_a_row_that_is_no_list(self):
        for thing in no_lists():
            self.check_row(thing)

    def test_a_row_that_is_no_pair(self):
        for row in [[], (), ["a"], ("a",), [[]], ["a", [], []], ("a", [], "a"), ["a", "a"], ["b", "a", []], nested(5000)]:
            self.check_row(row)

    def test_a_cell_that_is_no_name(self):
        for thing in no_names():
            self.check_row([thing, []])
            self.check_row((thing, ("a",)))

    def test_a_cell_that_an_earlier_one_tells(self):
        self.check([("a", []), ("a", [])], 1)
        self.check([("a", []), ("b", []), ("a", ["b"])], 2)
        self.check([("b", ["b"]), ("a", []), ("c", []), ["b", []], ["b", []]], 3)

    def test_sources_that_are_no_list(self):
        for thing in no_lists():
            self.check_row(["a", thing])

    def test_sources_that_are_no_names(self):
        for thing in no_names():
            self.check_row(("a", [thing]))
            self.check_row(["a", ("a", thing)])
            self.check_row(["a", (thing, "a")])

    def test_a_source_told_twice(self):
        for sources in [["a", "a"], ("b", "b"), ["a", "b", "a"], ["a", "b", "b"], ["c", "c", "b"]]:
            self.check_row(("a", sources))

    def test_the_first_wrong_row_is_told(self):
        self.check([("a", []), None, ("a", []), "ab"], 1)
        self.check([("a", []), ("a", []), None], 1)
        self.check([("a", []), ("b", ["b", "b"]), ("a", [])], 1)
        self.check([("A", []), ("A", [])], 0)

    def test_it_goes_ahead_of_an_unknown_source(self):
        self.check([("a", ["z"]), ("b", ["y"]), ("a", [])], 2)
        self.check([("a", ["z"]), None], 1)
        self.check([("a", ["z", "z"])], 0)

    def test_names_are_strings_of_small_letters(self):
        for name in WRONG_NAMES:
            self.check([("a", []), (name, [])], 1)
            self.check([("a", [name])], 0)


class TestUnknownCell(unittest.TestCase):
    def check(self, call, thing):
        with self.assertRaises(UnknownCell) as held:
            call()
        self.assertIs(held.exception.cell, thing)
        self.assertEqual(type(held.exception), UnknownCell)
        self.assertIsInstance(held.exception, LotError)

    def test_the_first_source_that_is_no_cell(self):
        for rows, source in [
            ([("a", ["b"])], "b"),
            ([("a", ["a", "z", "y"])], "z"),
            ([("a", ["b", "y"]), ("b", ["x"])], "y"),
            ([("a", ["b"]), ("b", ["b", "a", "x", "c"]), ("c", ["y"])], "x"),
            ([("b", []), ("a", ["b", "a", "ab"])], "ab"),
        ]:
            with self.assertRaises(UnknownCell) as held:
                Web(rows)
            self.assertEqual(held.exception.cell, source)

    def test_sources_of_later_rows_are_known(self):
        self.assertEqual(Web([("a", ["b"]), ("b", [])]).sources("a"), ("b",))

    def test_sources_and_targets_of_any_object(self):
        web = Web([("b", ["b", "c"]), ("c", [])])
        for thing in no_names() + no_lists() + ["a", "bc", "abcdefgh", web, web.cells, ("b",), ["c"]]:
            self.check(lambda: web.sources(thing), thing)
            self.check(lambda: web.targets(thing), thing)
            self.check(lambda: web.sources(cell=thing), thing)

    def test_a_call_that_raises_changes_nothing(self):
        web = Web(ROWS)
        for thing in no_names():
            self.check(lambda: web.sources(thing), thing)
            self.check(lambda: web.targets(thing), thing)
        self.assertEqual(web, Web(ROWS))
        self.assertEqual((web.cells, web.arrows), (Web(ROWS).cells, Web(ROWS).arrows))
        rows = [["a", ["z"]], ["b", []]]
        with self.assertRaises(UnknownCell):
            Web(rows)
        self.assertEqual(rows, [["a", ["z"]], ["b", []]])


if __name__ == "__main__":
    unittest.main()
