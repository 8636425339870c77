"""Sweeps by the words of the document, for the tests: all of them, their marks, and checks of what is told of marks."""

import itertools
import random

from lotmarks.errors import BadMarks, MarkRing
from lotmarks.webs import Web
from tests.things import any_objects

# b reads a and c, a reads b and itself; c reads nothing.
MARKED = Web([("b", ["a", "c"]), ("a", ["b", "a"]), ("c", [])])


def all_sweeps(cells):
    """All sweeps of some cells, as lists of lots."""
    if not cells:
        yield []
    for many in range(1, len(cells) + 1):
        for lot in itertools.combinations(cells, many):
            for more in all_sweeps([cell for cell in cells if cell not in lot]):
                yield [list(lot)] + more


def lot_numbers(lots):
    return {cell: at for at, lot in enumerate(lots) for cell in lot}


def marks_by_words(web, lots):
    at = lot_numbers(lots)
    return {(source, target): "new" if at[source] < at[target] else "old" for source, target in web.arrows}


def least_by_words(web):
    """Pairs of the least sweeps, in their order, as lists of lots, and of the lists of all sweeps with their marks."""
    groups = {}
    for lots in all_sweeps(list(web.cells)):
        groups.setdefault(tuple(marks_by_words(web, lots).items()), []).append(lots)
    found = []
    for group in groups.values():
        least = {cell: min(lot_numbers(lots)[cell] for lots in group) for cell in web}
        found += [(lots, group) for lots in group if lot_numbers(lots) == least]
    assert len(found) == len(groups)
    return sorted(found, key=lambda pair: [sorted(web.cells.index(cell) for cell in lot) for lot in pair[0]])


def drawn_webs(many, most):
    """Webs of up to so many cells, in any order, the same ones at each call."""
    chance = random.Random(11)
    for _ in range(many):
        cells = chance.sample("abcdef", chance.randint(1, most))
        yield Web([(cell, chance.sample(cells, chance.randint(0, len(cells)))) for cell in cells])


def drawn_marks(web, seed, part=0.4):
    """Marks of some arrows, told in any order."""
    chance = random.Random(seed)
    arrows = [arrow for arrow in web.arrows if chance.random() < part]
    return {arrow: chance.choice(["new", "old"]) for arrow in chance.sample(arrows, len(arrows))}


def no_marks(arrows, none_is_one):
    """Any objects that are no marks of the arrows of MARKED; None is one of them if it may not stand for no marks."""
    told = {arrow: "new" for arrow in arrows}
    things = [thing for thing in any_objects() if thing != {} and (none_is_one or thing is not None)]
    things += [list(told.items()), list(told), tuple(told), [(arrows[0], "new")], str(told)]
    for key in ["a", 0, None, True, (), ("a",), ("a", "z"), ("z", "a"), ("a", "b", "c"), (1, 2), ("c", "c"), ("c", "a"), ""]:
        things += [{key: "new"}, {**told, key: "old"}]
    for mark in any_objects() + ["New", "OLD", "new ", "", "older", "ne", ("new",), ["old"]]:
        things += [{arrows[0]: mark}, {**told, arrows[-1]: mark}]
    return things


def check_bad_marks(test, call, arrows=(("a", "b"), ("a", "a")), none_is_one=True):
    """call(told) raises BadMarks for any object that is none of MARKED."""
    for thing in no_marks(list(arrows), none_is_one):
        with test.assertRaises(BadMarks) as held:
            call(thing)
        test.assertEqual((type(held.exception), vars(held.exception)), (BadMarks, {}))


def check_mark_ring(test, told, call):
    """call() raises MarkRing with a tuple of told arrows, a new one among them, that go round."""
    with test.assertRaises(MarkRing) as held:
        call()
    arrows = held.exception.arrows
    test.assertIsInstance(arrows, tuple)
    test.assertEqual([type(arrow) for arrow in arrows], [tuple] * len(arrows))
    test.assertIn("new", [told[arrow] for arrow in arrows])
    steps = [arrow if told[arrow] == "new" else arrow[::-1] for arrow in arrows]
    test.assertTrue(all(steps[at - 1][1] == steps[at][0] for at in range(len(steps))))
    return arrows
