"""Promises [3], [4] and [28] to [30]: races, the marks that they bring about, and lots done one by one."""

import itertools
import time
import unittest

from lotmarks.errors import BadActs, BadCells, BadMarks, MarkRing
from lotmarks.races import aside, is_aside, race_marks, race_of, races
from lotmarks.webs import Web
from tests.sweeps import check_bad_marks, check_mark_ring, drawn_marks, drawn_webs
from tests.things import any_objects, no_lists

# b reads a and c, a reads b and itself; c reads nothing, d reads all others.
WEB = Web([("b", ["a", "c"]), ("a", ["b", "a"]), ("c", []), ("d", ["c", "b", "a"])])
ACTS = [("read", "a", "b"), ("read", "c", "b"), ("write", "b"), ("read", "a", "a"), ("read", "b", "a"), ("write", "a")]


def race_arrows(web, cells):
    return [arrow for arrow in web.arrows if arrow[1] in cells]


def marks_by_words(web, cells, acts):
    """The marks of acts that are those of a race."""
    found = {}
    for source, target in race_arrows(web, cells):
        read, write = acts.index(("read", source, target)), acts.index(("write", target))
        assert read < write
        found[(source, target)] = "new" if source in cells and acts.index(("write", source)) < read else "old"
    assert len(acts) == len(found) + len(cells)
    return found


def ringless(arrows):
    """Whether no ring of these arrows stands."""
    arrows = list(arrows)
    while arrows:
        kept = [arrow for arrow in arrows if arrow[0] in [target for _, target in arrows]]
        if len(kept) == len(arrows):
            return False
        arrows = kept
    return True


def check_bad_cells(test, call):
    """call(cells) raises BadCells for any object that is no list of different cells of WEB."""
    things = any_objects() + [["a", "a"], ["a", "b", "a"], ("c", "c"), ["z"], ["a", "z"], ["a", ""], ["a", 1], "abc"]
    things += [[thing] for thing in any_objects()] + [["a", thing] for thing in any_objects()]
    for thing in things:
        if isinstance(thing, (list, tuple)) and all(isinstance(item, str) and item in WEB for item in thing):
            if len(set(thing)) == len(thing):
                continue
        with test.assertRaises(BadCells) as held:
            call(thing)
        test.assertEqual((type(held.exception), vars(held.exception)), (BadCells, {}))


def some_cells(web):
    """Lists of cells of a web: all, none, each one, and some of them, against their order."""
    yield from ([], list(web.cells), list(web.cells[::-1]), *[[cell] for cell in web.cells], list(web.cells[::-2]))


class TestRaceMarks(unittest.TestCase):
    def test_by_hand(self):
        found = race_marks(WEB, ["a", "b"], ACTS)
        expected = {("a", "b"): "old", ("c", "b"): "old", ("b", "a"): "new", ("a", "a"): "old"}
        self.assertEqual(list(found.items()), list(expected.items()))
        acts = [ACTS[3], ACTS[4], ACTS[5], ACTS[1], ACTS[0], ACTS[2]]
        expected = {("a", "b"): "new", ("c", "b"): "old", ("b", "a"): "old", ("a", "a"): "old"}
        self.assertEqual(list(race_marks(WEB, ("b", "a"), tuple(acts)).items()), list(expected.items()))
        acts = [ACTS[0], ACTS[4], ACTS[1], ACTS[3], ACTS[5], ACTS[2]]
        self.assertEqual(set(race_marks(WEB, ["a", "b"], acts).values()), {"old"})

    def test_races_of_all_cells_of_one_and_of_none(self):
        self.assertEqual(race_marks(WEB, [], []), {})
        self.assertEqual(race_marks(WEB, (), ()), {})
        self.assertEqual(race_marks(WEB, ["c"], [("write", "c")]), {})
        self.assertEqual(race_marks(WEB, ["a"], ACTS[3:]), {("b", "a"): "old", ("a", "a"): "old"})
        acts = [("write", "c")] + ACTS + [["read", "a", "d"], ("read", "c", "d"), ["read", "b", "d"], ["write", "d"]]
        expected = {
            ("a", "b"): "old", ("c", "b"): "new", ("b", "a"): "new", ("a", "a"): "old", ("c", "d"): "new",
            ("b", "d"): "new", ("a", "d"): "new",
        }
        self.assertEqual(list(race_marks(WEB, ["d", "c", "b", "a"], acts).items()), list(expected.items()))

    def test_all_races_of_small_webs(self):
        for web in drawn_webs(30, 3):
            for cells in some_cells(web):
                acts = [("read", *arrow) for arrow in race_arrows(web, cells)] + [("write", cell) for cell in cells]
                if len(acts) > 6:
                    continue
                for told in itertools.permutations(acts):
                    try:
                        expected = marks_by_words(web, cells, list(told))
                    except AssertionError:
                        wrong = [
                            at for at, act in enumerate(told) if act[0] == "write"
                            and any(other[0] == "read" and other[2] == act[1] for other in told[at:])
                        ]
                        self.check_bad(BadActs, wrong[0], web, cells, told)
                        continue
                    self.assertEqual(list(race_marks(web, cells, told).items()), list(expected.items()))

    def check_bad(self, made, index, web, cells, acts):
        with self.assertRaises(made) as held:
            race_marks(web, cells, acts)
        self.assertEqual((type(held.exception), held.exception.index), (made, index))

    def test_acts_that_lack(self):
        for many in range(len(ACTS)):
            self.check_bad(BadActs, many, WEB, ["a", "b"], ACTS[:many])
            if ACTS[many][0] == "write":
                less = ACTS[:many] + ACTS[many + 1:]
                self.check_bad(BadActs, len(less), WEB, ["a", "b"], less)
        self.check_bad(BadActs, 0, WEB, ["c"], [])

    def test_acts_that_may_not_stand_there(self):
        for at, act in [
            (1, ("read", "a", "b")), (3, ("write", "b")), (2, ("write", "a")), (0, ("write", "b")), (1, ("write", "b")),
            (4, ("read", "c", "b")), (0, ("read", "c", "d")), (2, ("read", "b", "b")), (2, ("write", "c")),
            (2, ("write", "d")), (1, ("read", "z", "a")), (1, ("read", "a", "z")), (1, ("write", "z")), (6, ("write", "a")),
            (6, ("read", "a", "a")), (6, ("write", "c")),
        ]:
            self.check_bad(BadActs, at, WEB, ["a", "b"], ACTS[:at] + [act] + ACTS[at:])
            self.check_bad(BadActs, at, WEB, ["a", "b"], ACTS[:at] + [list(act), None])

    def test_no_acts(self):
        strange = [
            ("read",), ("write",), ("read", "a"), ("write", "a", "b"), ("read", "a", "b", "b"), ("Read", "a", "b"),
            ("a", "b"), ("a", "read", "b"), (("read", "a"), "b"), "read", "write", ("write", ("b",)), (None, "a", "b"),
            ("read", ["a"], "b"), ("read", "a", None), {"read": ("a", "b")}, ("reads", "a", "b"), ("written", "b"),
            ("write", ["a"]), ("read", ("a", "b")), (True, "b"), ("", "b"), [], (),
        ]
        for thing in any_objects() + strange:
            for at in range(len(ACTS) + 1):
                self.check_bad(BadActs, at, WEB, ["a", "b"], ACTS[:at] + [thing] + ACTS[at:])

    def test_no_list_of_acts(self):
        for thing in no_lists() + [dict.fromkeys(ACTS), "read"]:
            self.check_bad(BadActs, 0, WEB, ["a", "b"], thing)
            self.check_bad(BadActs, 0, WEB, [], thing)

    def test_bad_cells_go_ahead_of_bad_acts(self):
        for acts in (ACTS, [], None, "acts", [None]):
            check_bad_cells(self, lambda cells: race_marks(WEB, cells, acts))

    def test_what_is_returned_is_new_and_arguments_by_name(self):
        race_marks(WEB, ["a", "b"], ACTS).clear()
        self.assertEqual(len(race_marks(acts=ACTS, cells=["a", "b"], web=WEB)), 4)


class TestRaceOf(unittest.TestCase):
    def check(self, web, cells, told):
        """race_of is right, whatever it tells: a race with the told marks, or why there is none."""
        new = [arrow for arrow, mark in told.items() if mark == "new"]
        if all(arrow[0] in cells for arrow in new) and ringless(new):
            acts = race_of(web, cells, told)
            self.assertIsInstance(acts, list)
            self.assertEqual([type(act) for act in acts], [tuple] * len(acts))
            found = race_marks(web, cells, acts)
            self.assertEqual(found, marks_by_words(web, cells, acts))
            self.assertLessEqual(told.items(), found.items())
            return
        with self.assertRaises(MarkRing) as held:
            race_of(web, cells, told)
        arrows = held.exception.arrows
        self.assertIsInstance(arrows, tuple)
        self.assertEqual([told[arrow] for arrow in arrows], ["new"] * len(arrows))
        if len(arrows) > 1 or arrows[0][0] in cells:
            self.assertTrue(all(arrows[at - 1][1] == arrows[at][0] for at in range(len(arrows))))

    def test_no_marks_some_and_all(self):
        for seed, web in enumerate(drawn_webs(40, 5)):
            for cells in some_cells(web):
                arrows = race_arrows(web, cells)
                self.check(web, cells, {})
                self.check(web, cells, {arrow: "old" for arrow in arrows})
                for part in (0.2, 0.5, 1.0):
                    told = drawn_marks(web, seed, part)
                    told = {arrow: mark for arrow, mark in told.items() if arrow in arrows}
                    self.check(web, cells, told)
                    self.check(web, cells, {arrow: told[arrow] if arrow[0] in cells else "old" for arrow in told})

    def test_each_set_of_marks_of_small_webs(self):
        for web in drawn_webs(25, 3):
            for cells in some_cells(web):
                arrows = [arrow for arrow in race_arrows(web, cells) if arrow[0] in cells]
                for many in itertools.product(("new", "old"), repeat=len(arrows)):
                    self.check(web, cells, dict(zip(arrows, many)))

    def test_an_arrow_from_beyond(self):
        for told in [{("c", "b"): "new"}, {("a", "b"): "new", ("c", "b"): "new"}, {("c", "b"): "new", ("a", "b"): "old"}]:
            with self.assertRaises(MarkRing) as held:
                race_of(WEB, ["a", "b"], told)
            self.assertEqual(held.exception.arrows, (("c", "b"),))
        acts = race_of(WEB, ["a", "b"], {("c", "b"): "old"})
        self.assertEqual(race_marks(WEB, ["a", "b"], acts)[("c", "b")], "old")
        acts = race_of(WEB, ["c", "b"], {("c", "b"): "new"})
        self.assertEqual(race_marks(WEB, ["c", "b"], acts)[("c", "b")], "new")

    def test_rings(self):
        told = {("a", "a"): "new"}
        self.assertEqual(check_mark_ring(self, told, lambda: race_of(WEB, ["a"], told)), (("a", "a"),))
        told = {("c", "b"): "old", ("b", "a"): "new", ("a", "b"): "new"}
        found = check_mark_ring(self, told, lambda: race_of(WEB, ["a", "b"], told))
        self.assertEqual(sorted(found), [("a", "b"), ("b", "a")])
        web = Web([("c", ["b"]), ("b", ["a"]), ("a", ["c"])])
        told = {arrow: "new" for arrow in web.arrows}
        found = check_mark_ring(self, told, lambda: race_of(web, ["b", "a", "c"], told))
        self.assertEqual(sorted(found), sorted(web.arrows))
        # Old arrows make no ring with new ones, as they do in sweeps: each cell is read whenever one likes.
        self.check(web, ["a", "b", "c"], {("b", "c"): "new", ("a", "b"): "new", ("c", "a"): "old"})

    def test_bad_cells_go_ahead_of_bad_marks(self):
        for told in ({}, None, {("c", "b"): "new"}, {("a", "a"): "new"}):
            check_bad_cells(self, lambda cells: race_of(WEB, cells, told))

    def test_no_marks(self):
        check_bad_marks(self, lambda told: race_of(WEB, ["a", "b"], told))
        for told in [{("c", "d"): "old"}, {("b", "d"): "new"}, {("a", "b"): "old", ("a", "d"): "old"}]:
            with self.assertRaises(BadMarks):
                race_of(WEB, ["a", "b", "c"], told)
        with self.assertRaises(BadMarks):
            race_of(WEB, ["b"], {("b", "a"): "old"})
        with self.assertRaises(BadMarks):
            race_of(WEB, ["a"], {("a", "a"): "new", ("a", "b"): "old"})

    def test_what_is_told_stays_and_arguments_by_name(self):
        told, cells = {("b", "a"): "new"}, ["a", "b"]
        race_of(told=told, cells=cells, web=WEB).clear()
        self.assertEqual((told, cells), ({("b", "a"): "new"}, ["a", "b"]))
        self.assertEqual(len(race_of(WEB, cells, told)), 6)


class TestRaces(unittest.TestCase):
    def test_by_hand(self):
        self.assertEqual(races(WEB, []), 1)
        self.assertEqual([races(WEB, [cell]) for cell in "abcd"], [1, 1, 1, 1])
        self.assertEqual(races(WEB, ["a", "b"]), 3)
        self.assertEqual(races(WEB, ("b", "c")), 2)
        self.assertEqual(races(WEB, ["d", "c", "a"]), 4)

    def test_all_sets_of_arrows(self):
        for web in drawn_webs(40, 4):
            for cells in some_cells(web):
                arrows = [arrow for arrow in race_arrows(web, cells) if arrow[0] in cells]
                sets = [some for many in range(len(arrows) + 1) for some in itertools.combinations(arrows, many)]
                self.assertEqual(races(web, cells), sum(ringless(some) for some in sets))

    def test_all_races(self):
        for web in drawn_webs(25, 3):
            for cells in some_cells(web):
                acts = [("read", *arrow) for arrow in race_arrows(web, cells)] + [("write", cell) for cell in cells]
                if len(acts) <= 6:
                    found = set()
                    for told in itertools.permutations(acts):
                        try:
                            found.add(tuple(race_marks(web, cells, told).items()))
                        except BadActs:
                            pass
                    self.assertEqual(races(web, cells), len(found))

    def test_the_most_arrows(self):
        cells = list("fbdace")
        web = Web([(cell, cells) for cell in cells])
        begin = time.monotonic()
        # As many as there are graphs of six numbered things with directed edges and without rings.
        self.assertEqual([races(web, cells[:many]) for many in range(7)], [1, 1, 3, 25, 543, 29281, 3781503])
        told = {(one, other): "new" for at, one in enumerate(cells) for other in cells[at + 1:]}
        self.assertEqual(len(race_of(web, cells, told)), 42)
        self.assertEqual(aside(web, cells)[0], tuple(cells[:5]))
        self.assertLess(time.monotonic() - begin, 10)

    def test_bad_cells_and_arguments_by_name(self):
        check_bad_cells(self, lambda cells: races(WEB, cells))
        self.assertEqual(races(cells=["a", "b"], web=WEB), 3)


def stands_by_words(web, kept, row):
    """Whether no cell that is not kept stands ahead of another one of which it is a source."""
    pairs = itertools.combinations(row, 2)
    return all(one in kept or one not in web.sources(other) for one, other in pairs)


class TestAside(unittest.TestCase):
    def test_by_hand(self):
        self.assertEqual(aside(WEB, []), ((), ()))
        self.assertEqual(aside(WEB, ["a"]), ((), ("a",)))
        # b and a read one another: b goes first by the order of the cells.
        self.assertEqual(aside(WEB, ["a", "b"]), (("b",), ("b", "a")))
        self.assertEqual(aside(WEB, ["c", "d"]), ((), ("d", "c")))
        self.assertEqual(aside(WEB, ["c", "b"]), ((), ("b", "c")))
        self.assertEqual(aside(WEB, ("a", "b", "c", "d")), (("b",), ("b", "d", "a", "c")))

    def test_rings(self):
        web = Web([("c", ["b"]), ("b", ["a"]), ("a", ["c"])])
        self.assertEqual(aside(web, ["a", "b", "c"]), (("c",), ("c", "b", "a")))
        web = Web([("b", ["a", "b"]), ("a", ["b", "c"]), ("c", ["a", "c"])])
        # Without a there is no ring, so one cell is enough.
        self.assertEqual(aside(web, ["a", "b", "c"]), (("a",), ("a", "b", "c")))

    def test_the_first_of_all(self):
        for web in drawn_webs(40, 5):
            for cells in some_cells(web):
                if len(cells) > 4:
                    continue
                lot = [cell for cell in web if cell in cells]
                found = [
                    (kept, row) for many in range(len(lot) + 1) for kept in itertools.combinations(lot, many)
                    for row in itertools.permutations(lot) if stands_by_words(web, kept, row)
                ]
                self.assertEqual(aside(web, cells), found[0])
                self.assertEqual([type(part) for part in aside(web, cells)], [tuple, tuple])
                self.assertIs(is_aside(web, cells, *aside(web, cells)), True)

    def test_is_aside_by_words(self):
        for web in drawn_webs(15, 4):
            cells = list(web.cells[::-1])
            for many in range(len(cells) + 1):
                for kept in itertools.permutations(cells, many):
                    for row in itertools.permutations(cells):
                        self.assertIs(is_aside(web, cells, list(kept), row), stands_by_words(web, kept, row))

    def test_is_aside_by_hand(self):
        self.assertIs(is_aside(WEB, ["a", "b"], ["b"], ["b", "a"]), True)
        self.assertIs(is_aside(WEB, ["a", "b"], ["b", "a"], ("b", "a")), True)
        self.assertIs(is_aside(WEB, ["a", "b"], ["a"], ["b", "a"]), False)
        self.assertIs(is_aside(WEB, ["a", "b"], [], ["b", "a"]), False)
        self.assertIs(is_aside(WEB, [], [], []), True)
        for kept, row in [
            (["b"], ["b"]), (["b"], ["b", "a", "c"]), (["b"], ["b", "a", "a"]), (["b", "b"], ["b", "a"]), (["b"], []),
            (["b", "c"], ["b", "a"]), (["b", "z"], ["b", "a"]), (["b"], ["b", "z"]), (["b"], ["b", "b"]), ("b", ["b", "a"]),
            (["b"], "ba"), ({"b": 1}, ["b", "a"]), (["b"], {"b": 1, "a": 2}), (["b"], ["a", "c"]),
        ]:
            self.assertIs(is_aside(WEB, ["a", "b"], kept, row), False, (kept, row))

    def test_any_objects(self):
        for thing in any_objects() + [[thing] for thing in any_objects()] + [["b", thing] for thing in any_objects()]:
            is_row = thing in (["b", "a"], ["a", "b"], ("a", "b"))
            self.assertIs(is_aside(WEB, ["a", "b"], ["b", "a"], thing), is_row)
            self.assertIs(is_aside(WEB, ["a", "b"], thing, ["a", "b"]), is_row or thing in (["a"], ("a",)))

    def test_bad_cells_and_arguments_by_name(self):
        check_bad_cells(self, lambda cells: aside(WEB, cells))
        for kept, row in [([], []), (None, None), (["b"], ["b", "a"])]:
            check_bad_cells(self, lambda cells: is_aside(WEB, cells, kept, row))
        self.assertEqual(aside(cells=["a", "b"], web=WEB), (("b",), ("b", "a")))
        self.assertIs(is_aside(row=["b", "a"], kept=["b"], cells=["a", "b"], web=WEB), True)


if __name__ == "__main__":
    unittest.main()
