"""Things that several tests need.

Any objects, of every kind that the document names; small webs and programs; what versions come from, written out; and
checks of equality and of errors.
"""

import itertools
import random

from lotmarks.errors import LotError, UnknownCell
from lotmarks.partings import Parting
from lotmarks.programs import Program
from lotmarks.rules import Rules
from lotmarks.webs import Web

WRONG_NAMES = (
    "", "A", "aB", "a1", "1", "a_b", "a b", " a", "a ", "a\n", "\n", "-", "{", "`", "abcdefghi", "\u00e4", "\u00df",
    "a\u00e9", "\uff41", "\u03b1",
)


def nested(depth):
    """A list in a list in a list .., too deep for anything that looks into all of it by recursion."""
    thing = []
    for _ in range(depth):
        thing = [thing]
    return thing


def no_lists():
    """Any objects that are neither lists nor tuples, made anew."""
    return [
        None, True, False, 0, 1, 2, -1, 10 ** 30, "", "a", "ab", "abc", {}, {"a": []}, {"a": "b", "b": "a"}, {0: "a"},
        Web([("a", [])]), Web([("a", ["b"]), ("b", ["a"])]), Program([]), Program([["a"]]), Program([["a"], ["b"]]),
        LotError(), UnknownCell("a"), Rules(Web([("a", [])]), 1, {}), Rules(Web([("a", ["a"])]), 2, {"a": [((0,), 1)]}),
        Parting(Rules(Web([("a", [])]), 2, {}), {"a": 0}, "a"),
    ]


def no_names():
    """Any objects that are no names, made anew."""
    things = [thing for thing in no_lists() if not isinstance(thing, str)]
    lists = [[], (), ["a"], ("a",), ["a", "b"], [[]], [["a"]], [None], ({"a": [1]},), [{}, [], ()], nested(5000)]
    return things + lists + list(WRONG_NAMES)


def any_objects():
    """Any objects, names and lists among them, made anew."""
    return no_names() + ["a", "b", "z", "abcdefgh"]


def small_webs():
    """All rows of webs with the cells b, a, c in this order, sources in the order of the alphabet."""
    choices = [list(some) for many in range(4) for some in itertools.combinations("abc", many)]
    for sources in itertools.product(choices, repeat=3):
        yield list(zip("bac", sources))


def some_webs(step):
    """Every so many of the small webs."""
    return [Web(rows) for rows in itertools.islice(small_webs(), 0, None, step)]


def all_programs(cells, most):
    """All programs of up to most lots of these cells."""
    lots = [some for many in range(1, len(cells) + 1) for some in itertools.combinations(cells, many)]
    for many in range(most + 1):
        for told in itertools.product(lots, repeat=many):
            yield Program(told)


def chance_programs(many, most):
    """Programs of up to most lots of the cells a, b, c, the same ones at each call."""
    chance = random.Random(7)
    for turn in range(many):
        yield Program([chance.sample("abc", chance.randint(1, 3)) for lot in range(chance.randint(0, most))])


def without(program, renewings):
    """The program without some renewings, which are told as pairs of a cell and a number, and without empty lots."""
    numbers, lots = {}, []
    for lot in program.lots:
        for cell in lot:
            numbers[cell] = numbers.get(cell, 0) + 1
        kept = [cell for cell in lot if (cell, numbers[cell]) not in renewings]
        lots += [kept] if kept else []
    return Program(lots)


def terms(web, program):
    """For each cell the list of what its versions come from, written out: the cell, or a tuple of it and of terms.

    Two versions are alike if their terms are equal. The terms of long programs are too large to be looked through.
    """
    told = {cell: [cell] for cell in web.cells}
    for lot in program.lots:
        taken = {cell: (cell, *(told[source][-1] for source in web.sources(cell))) for cell in lot}
        for cell, term in taken.items():
            told[cell].append(term)
    return told


def last_terms(web, program):
    """For each cell the term of its last version."""
    return {cell: row[-1] for cell, row in terms(web, program).items()}


THREE = Web([("c", ["a"]), ("a", ["c", "a"]), ("b", [])])

# The cells stand against the order of the letters; x has no source, and z has two that are renewed in turn.
LATE = Web([("z", ["y", "x"]), ("y", ["x"]), ("x", [])])
LATE_LOTS = [["y"], ["y"], ["x"], ["y"], ["z"], ["x"], ["z"]]

# Lots of programs, and the first cell that the web THREE lacks: lot by lot, and ascending in each.
LACKING = [
    ([["z"]], "z"),
    ([["a", "z"], ["y"]], "z"),
    ([["z", "y", "a"], ["x"]], "y"),
    ([["a", "b", "c"], ["d", "a"]], "d"),
    ([["c"], ["b"], ["zz", "za", "zb", "a"], ["d"]], "za"),
    ([["a"], ["a"], ["ab"]], "ab"),
]


def check_raises(test, made, told, call):
    """A call raises an error of just this class, which keeps the very object that is told, or an equal name."""
    with test.assertRaises(made) as held:
        call()
    test.assertEqual(type(held.exception), made)
    kept = list(vars(held.exception).values())
    test.assertEqual(len(kept), 1)
    if isinstance(told, str):
        test.assertEqual(kept[0], told)
    else:
        test.assertIs(kept[0], told)


def check_lacking(test, call):
    """call(program), a call about the web THREE, raises UnknownCell for the first cell that the web lacks."""
    for lots, cell in LACKING:
        program = Program(lots)
        check_raises(test, UnknownCell, cell, lambda: call(program))
        test.assertEqual(program, Program(lots))
    test.assertEqual(THREE, Web([("c", ["a"]), ("a", ["c", "a"]), ("b", [])]))


def check_lacking_of_two(test, call):
    """call(one, other), likewise, for the first program and then for the other one."""
    check_lacking(test, lambda program: call(program, Program([["a"]])))
    check_lacking(test, lambda program: call(Program([["a"]]), program))
    check_lacking(test, lambda program: call(program, Program([["aa"]])))
    check_lacking(test, lambda program: call(program, program))


class EqualToAll:
    """A thing that tells of itself that it is equal to everything."""

    def __eq__(self, other):
        return True


def check_equal(test, one, other, equal):
    """Both signs, from both sides, tell True or False as they should."""
    test.assertIs(one == other, equal)
    test.assertIs(one != other, not equal)
    test.assertIs(other == one, equal)
    test.assertIs(other != one, not equal)
