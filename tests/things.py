"""Things that several tests pass: any objects, of every kind that the document names, small webs, a check of equality."""

import itertools

from lotmarks.errors import LotError, UnknownCell
from lotmarks.programs import Program
from lotmarks.webs import Web

WRONG_NAMES = (
    "", "A", "aB", "a1", "1", "a_b", "a b", " a", "a ", "a\n", "\n", "-", "{", "`", "abcdefghi", "\u00e4", "\u00df",
    "a\u00e9", "\uff41", "\u03b1",
)


def nested(depth):
    """A list in a list in a list .., too deep for anything that looks into all of it by recursion."""
    thing = []
    for _ in range(depth):
        thing = [thing]
    return thing


def no_lists():
    """Any objects that are neither lists nor tuples, made anew."""
    return [
        None, True, False, 0, 1, 2, -1, 10 ** 30, "", "a", "ab", "abc", {}, {"a": []}, {"a": "b", "b": "a"}, {0: "a"},
        Web([("a", [])]), Web([("a", ["b"]), ("b", ["a"])]), Program([]), Program([["a"]]), Program([["a"], ["b"]]),
        LotError(), UnknownCell("a"),
    ]


def no_names():
    """Any objects that are no names, made anew."""
    things = [thing for thing in no_lists() if not isinstance(thing, str)]
    lists = [[], (), ["a"], ("a",), ["a", "b"], [[]], [["a"]], [None], ({"a": [1]},), [{}, [], ()], nested(5000)]
    return things + lists + list(WRONG_NAMES)


def any_objects():
    """Any objects, names and lists among them, made anew."""
    return no_names() + ["a", "b", "z", "abcdefgh"]


def small_webs():
    """All rows of webs with the cells b, a, c in this order, sources in the order of the alphabet."""
    choices = [list(some) for many in range(4) for some in itertools.combinations("abc", many)]
    for sources in itertools.product(choices, repeat=3):
        yield list(zip("bac", sources))


class EqualToAll:
    """A thing that tells of itself that it is equal to everything."""

    def __eq__(self, other):
        return True


def check_equal(test, one, other, equal):
    """Both signs, from both sides, tell True or False as they should."""
    test.assertIs(one == other, equal)
    test.assertIs(one != other, not equal)
    test.assertIs(other == one, equal)
    test.assertIs(other != one, not equal)
