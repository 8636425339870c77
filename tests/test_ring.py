"""Promises [3] and [7]: rings of arrows."""

import itertools
import unittest

from lotmarks.errors import UnknownCell
from lotmarks.webs import Web, ring
from tests.things import no_lists, no_names, small_webs


def shortest_length(web, cells):
    """The length of a shortest ring among some cells, by trying all, or None."""
    told = sorted(set(cells))
    for many in range(1, len(told) + 1):
        for path in itertools.permutations(told, many):
            if all((path[at - 1], path[at]) in web.arrows for at in range(many)):
                return many + 1
    return None


class TestRing(unittest.TestCase):
    def check(self, web, cells):
        """The ring is one, and as short as those that trying all of them finds."""
        found = ring(web, cells)
        length = shortest_length(web, cells)
        if length is None:
            self.assertIsNone(found)
            return
        self.assertIsInstance(found, list)
        self.assertEqual(len(found), length)
        self.assertEqual(found[0], found[-1])
        for at in range(length - 1):
            self.assertIn((found[at], found[at + 1]), web.arrows)
            self.assertIn(found[at], cells)

    def test_a_cell_that_is_its_own_source(self):
        web = Web([("a", ["a"])])
        self.assertEqual(ring(web, ["a"]), ["a", "a"])
        self.assertEqual(ring(web, ("a",)), ["a", "a"])

    def test_no_ring(self):
        web = Web([("a", []), ("b", ["a"]), ("c", ["a", "b"])])
        self.assertIsNone(ring(web, ["a", "b", "c"]))
        self.assertIsNone(ring(Web([("a", [])]), ["a"]))

    def test_the_arrows_go_from_each_to_the_next(self):
        web = Web([("a", ["c"]), ("b", ["a"]), ("c", ["b"])])
        self.assertIn(ring(web, ["a", "b", "c"]), [["a", "b", "c", "a"], ["b", "c", "a", "b"], ["c", "a", "b", "c"]])
        self.check(web, ["c", "b", "a"])

    def test_a_ring_of_two(self):
        web = Web([("a", ["b"]), ("b", ["a"])])
        self.assertIn(ring(web, ["b", "a"]), [["a", "b", "a"], ["b", "a", "b"]])

    def test_no_cells_are_told(self):
        web = Web([("a", ["a", "b"]), ("b", ["a"])])
        self.assertIsNone(ring(web, []))
        self.assertIsNone(ring(web, ()))

    def test_rings_that_leave_the_told_cells(self):
        web = Web([("a", ["b"]), ("b", ["c"]), ("c", ["a"]), ("d", ["d"])])
        for cells in itertools.chain.from_iterable(itertools.combinations("abc", many) for many in range(3)):
            self.assertIsNone(ring(web, list(cells)))
        self.assertEqual(ring(web, ["a", "b", "d"]), ["d", "d"])

    def test_a_cell_told_twice(self):
        web = Web([("a", ["b", "a"]), ("b", ["a"]), ("c", ["b"])])
        self.assertEqual(ring(web, ["a", "a"]), ["a", "a"])
        self.assertIsNone(ring(web, ["b", "b", "c", "b", "c"]))
        self.check(Web([("a", ["b"]), ("b", ["a"])]), ["b", "b", "a", "b"])

    def test_the_shortest_of_several(self):
        rows = [("a", ["d"]), ("b", ["a"]), ("c", ["b"]), ("d", ["c"]), ("e", ["f"]), ("f", ["e"])]
        web = Web(rows)
        self.assertEqual(len(ring(web, list("abcdef"))), 3)
        self.assertEqual(len(ring(web, list("fedcba"))), 3)
        self.assertEqual(len(ring(web, list("abcdf"))), 5)
        shorter = Web(rows + [("g", ["g", "a"])])
        self.assertEqual(ring(shorter, list("abcdefg")), ["g", "g"])

    def test_a_shorter_way_back_within_a_longer_ring(self):
        web = Web([("a", ["f", "c"]), ("b", ["a"]), ("c", ["b"]), ("d", ["c"]), ("e", ["d"]), ("f", ["e", "b"])])
        for cells in itertools.permutations("abcdef"):
            self.check(web, list(cells))

    def test_a_ring_that_a_path_leads_into(self):
        web = Web([("a", []), ("b", ["a", "d"]), ("c", ["b"]), ("d", ["c"]), ("e", ["d"])])
        self.assertEqual(len(ring(web, ["a", "b", "c", "d", "e"])), 4)
        self.check(web, ["a", "e", "d", "c", "b"])

    def test_all_small_webs(self):
        told = [some for many in range(4) for some in itertools.permutations("abc", many)]
        for rows in small_webs():
            web = Web(rows)
            for cells in told:
                self.check(web, cells)

    def test_rings_of_all_lengths(self):
        for many in range(1, 8):
            cells = "abcdefg"[:many]
            web = Web([(cells[at], [cells[at - 1]]) for at in range(many)])
            self.assertEqual(len(ring(web, cells[::-1])), many + 1)
            self.check(web, list(cells))

    def test_webs_with_many_arrows(self):
        for keep in range(2, 9):
            rows = [(cell, [source for at, source in enumerate("abcdef") if (at * 5 + ord(cell) * 3) % keep == 1])
                    for cell in "abcdef"]
            for many in range(7):
                for cells in itertools.combinations("fdbeca", many):
                    self.check(Web(rows), cells)


class TestCalls(unittest.TestCase):
    def test_arguments_by_name(self):
        web = Web([("a", []), ("b", ["b"])])
        self.assertEqual(ring(cells=["a", "b"], web=web), ["b", "b"])
        self.assertEqual(ring(web, cells=("b",)), ["b", "b"])

    def test_the_list_is_new(self):
        web = Web([("a", ["a"])])
        ring(web, ["a"]).append("b")
        self.assertEqual(ring(web, ["a"]), ["a", "a"])

    def test_what_is_passed_is_left_as_it_is(self):
        web = Web([("a", ["b"]), ("b", ["a"])])
        cells = ["b", "a", "b"]
        ring(web, cells)
        self.assertEqual(cells, ["b", "a", "b"])
        self.assertEqual(web, Web([("a", ["b"]), ("b", ["a"])]))

    def test_the_first_that_is_no_cell(self):
        web = Web([("b", ["b"]), ("c", [])])
        for thing in no_names() + no_lists() + ["a", "bc", "zz"]:
            for cells in [[thing], (thing,), ["b", thing], ["c", thing, "zzz", None], [thing, "b", thing]]:
                with self.assertRaises(UnknownCell) as held:
                    ring(web, cells)
                self.assertIs(held.exception.cell, thing)
                self.assertEqual(type(held.exception), UnknownCell)


if __name__ == "__main__":
    unittest.main()
