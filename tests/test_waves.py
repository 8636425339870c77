"""Promises [3], [4], [33] and [34]: pieces in a row, and waves that go through them."""

import itertools
import random
import unittest

from lotmarks.errors import BadArrow, BadNumber, BadPiece, BadWave
from lotmarks.programs import Program
from lotmarks.versions import same
from lotmarks.waves import Piece, row, wave, waves_part
from lotmarks.webs import Web
from tests.things import any_objects, check_raises, no_lists, no_names

# b reads a of the piece to the right and itself of the piece to the left, a reads b of its own piece.
CELLS = ["b", "a"]
ARROWS = [("a", 1, "b"), ("b", 0, "a"), ("b", -1, "b")]
PIECE = Piece(CELLS, ARROWS)
KINDS = ("together", "right", "left", "even", "odd")
LOTS = [["b"], ["a"]]


def drawn_pieces(many):
    """Pieces, the same ones at each call."""
    chance = random.Random(23)
    for _ in range(many):
        cells = chance.sample(["a", "b", "cc"], chance.randint(1, 3))
        arrows = list(itertools.product(cells, (-1, 0, 1), cells))
        yield Piece(cells, chance.sample(arrows, chance.randint(0, min(10, len(arrows)))))


def drawn_wave(piece, chance):
    cells = chance.sample(piece.cells, len(piece.cells))
    lots = [[cells[0]]]
    for cell in cells[1:]:
        if chance.random() < 0.4:
            lots[-1].append(cell)
        else:
            lots.append([cell])
    return (chance.choice(KINDS), lots)


def renewed_by_words(kind, lots, n):
    """The lots of a wave, as lists of pairs of a cell and the number of a piece."""
    pieces = list(range(n))
    if kind == "together":
        return [[(cell, k) for k in pieces for cell in lot] for lot in lots]
    if kind in ("right", "left"):
        return [[(cell, k) for cell in lot] for k in (pieces if kind == "right" else pieces[::-1]) for lot in lots]
    first = [k for k in pieces if (k % 2 == 0) == (kind == "even")]
    groups = [group for group in (first, [k for k in pieces if k not in first]) if group]
    return [[(cell, k) for k in group for cell in lot] for group in groups for lot in lots]


class TestPiece(unittest.TestCase):
    def test_attributes(self):
        self.assertEqual(PIECE.cells, ("b", "a"))
        self.assertEqual(PIECE.arrows, (("a", 1, "b"), ("b", 0, "a"), ("b", -1, "b")))
        self.assertEqual([type(arrow) for arrow in PIECE.arrows], [tuple] * 3)
        self.assertEqual(Piece(("x",), ()).arrows, ())
        found = Piece(["abcdefg", "g"], (["g", 0, "abcdefg"],))
        self.assertEqual((found.cells, found.arrows), (("abcdefg", "g"), (("g", 0, "abcdefg"),)))

    def test_what_is_passed_may_be_changed_later(self):
        cells, arrow = ["b", "a"], ["a", 1, "b"]
        arrows = [arrow]
        piece = Piece(cells, arrows)
        cells.append("c")
        arrow[1] = 0
        arrows.append(("a", 0, "a"))
        self.assertEqual((piece.cells, piece.arrows), (("b", "a"), (("a", 1, "b"),)))
        self.assertEqual(row(piece, 2), Web([("ba", ["ab"]), ("aa", []), ("bb", []), ("ab", [])]))

    def test_no_cells(self):
        lists = [[], (), ["a", "a"], ["a", "b", "a"], ("a", "a"), ["abcdefgh"], ["a", "zzzzzzzz"], "abc"]
        things = no_lists() + lists + [[thing] for thing in no_names()] + [["a", thing] for thing in no_names()]
        for thing in things:
            for arrows in ([], None, [("z", 0, "z")]):
                with self.assertRaises(BadPiece) as held:
                    Piece(thing, arrows)
                self.assertEqual((type(held.exception), vars(held.exception)), (BadPiece, {}))

    def test_no_list_of_arrows(self):
        for thing in no_lists():
            check_index(self, 0, lambda: Piece(CELLS, thing))

    def test_no_arrows(self):
        strange = [
            ("a", "b"), ("a", 0, "b", 0), ("a",), (), [], "a0b", ("a", 2, "b"), ("a", -2, "b"), ("a", True, "b"),
            ("a", False, "b"), ("a", "0", "b"), ("a", None, "b"), ("a", (0,), "b"), ("z", 0, "b"), ("a", 0, "z"),
            (0, "a", "b"), ("a", "b", 0), (["a"], 0, "b"), ("a", 0, None), ({}, 0, "a"), ("", 0, "a"), {"a": 0, "b": 1},
            ("a", 10 ** 20, "b"), ("ba", 0, "a"), ("A", 0, "a"), ("a", 0, True),
        ]
        for thing in any_objects() + strange + ARROWS + [list(arrow) for arrow in ARROWS]:
            check_index(self, 3, lambda: Piece(CELLS, ARROWS + [thing, None]))
            check_index(self, 3, lambda: Piece(CELLS, tuple(ARROWS) + (thing,) + (("a", 0, "a"),)))
        for thing in any_objects() + strange:
            for at in range(3):
                check_index(self, at, lambda: Piece(CELLS, ARROWS[:at] + [thing] + ARROWS[at:]))

    def test_a_triple_twice(self):
        check_index(self, 1, lambda: Piece(["a"], [("a", 0, "a"), ["a", 0, "a"]]))
        check_index(self, 2, lambda: Piece(["a"], [["a", 0, "a"], ("a", 1, "a"), ["a", 0, "a"], None]))
        self.assertEqual(len(Piece(["a"], [("a", 0, "a"), ["a", 1, "a"], ("a", -1, "a")]).arrows), 3)

    def test_arguments_by_name(self):
        self.assertEqual(Piece(arrows=ARROWS, cells=CELLS).arrows, PIECE.arrows)


def check_index(test, index, call):
    with test.assertRaises(BadArrow) as held:
        call()
    test.assertEqual((type(held.exception), held.exception.index), (BadArrow, index))
    test.assertNotIsInstance(held.exception.index, bool)


class TestRow(unittest.TestCase):
    def test_by_hand(self):
        self.assertEqual(row(PIECE, 1), Web([("ba", []), ("aa", ["ba"])]))
        self.assertEqual(row(PIECE, 2), Web([("ba", ["ab"]), ("aa", ["ba"]), ("bb", ["ba"]), ("ab", ["bb"])]))
        self.assertEqual(row(PIECE, 3), Web([
            ("ba", ["ab"]), ("aa", ["ba"]), ("bb", ["ac", "ba"]), ("ab", ["bb"]), ("bc", ["bb"]), ("ac", ["bc"]),
        ]))

    def test_sources_stand_in_the_order_of_the_arrows(self):
        for arrows in itertools.permutations([("a", 1, "a"), ("a", 0, "a"), ("a", -1, "a")]):
            web = row(Piece(["a"], arrows), 3)
            self.assertEqual(web.sources("ab"), tuple("a" + "abc"[1 + offset] for _, offset, _ in arrows))

    def test_by_words(self):
        for piece in drawn_pieces(40):
            for n in (1, 2, 3, 26):
                letters = "abcdefghijklmnopqrstuvwxyz"[:n]
                rows = []
                for k in range(n):
                    for cell in piece.cells:
                        told = [(one, k + offset) for one, offset, other in piece.arrows if other == cell]
                        rows.append((cell + letters[k], [one + letters[at] for one, at in told if at in range(n)]))
                self.assertEqual(row(piece, n), Web(rows))

    def test_26_pieces_and_seven_letters(self):
        web = row(Piece(["abcdefg"], [("abcdefg", -1, "abcdefg")]), 26)
        self.assertEqual((len(web), web.cells[0], web.cells[25]), (26, "abcdefga", "abcdefgz"))
        self.assertEqual((web.sources("abcdefga"), web.sources("abcdefgz")), ((), ("abcdefgy",)))

    def test_no_numbers(self):
        for thing in no_numbers():
            check_raises(self, BadNumber, thing, lambda: row(PIECE, thing))

    def test_arguments_by_name(self):
        self.assertEqual(row(n=2, piece=PIECE), row(PIECE, 2))


def no_numbers():
    things = any_objects() + [0, -1, 27, 28, True, False, 10 ** 20, "1", (1,)]
    return [thing for thing in things if not isinstance(thing, int) or isinstance(thing, bool) or not 1 <= thing <= 26]


def no_waves():
    """Any objects that are no waves of PIECE."""
    things = any_objects() + [(), ("right",), ("right", LOTS, LOTS), (LOTS, "right"), LOTS, {"right": LOTS}, "right"]
    things += [(kind, LOTS) for kind in any_objects() + ["up", "Right", "right ", "", "evens", ("right",), "togethe"]]
    lists = [
        [], [["a"]], [["b"]], [["a", "b"], []], [[], ["a", "b"]], [["a", "b"], ["a"]], [["a", "b", "z"]], [["a"], ["z"]],
        [["a", "a", "b"]], [["a"], ["a"], ["b"]], [["a"], "b"], ["a", "b"], "ab", [["a"], None], [["a"], ["b"], None],
        [["a"], [["b"]]], [["a"], {"b": 1}], {"a": 1}, [["a", 1], ["b"]], [["a"], ["b"], []], [["aa"], ["ba"]],
    ]
    return things + [("together", lots) for lots in lists + any_objects()] + [["odd", lots] for lots in lists]


class TestWave(unittest.TestCase):
    def test_by_hand(self):
        for kind, lots in [
            ("together", [["ba", "bb", "bc"], ["aa", "ab", "ac"]]),
            ("right", [["ba"], ["aa"], ["bb"], ["ab"], ["bc"], ["ac"]]),
            ("left", [["bc"], ["ac"], ["bb"], ["ab"], ["ba"], ["aa"]]),
            ("even", [["ba", "bc"], ["aa", "ac"], ["bb"], ["ab"]]),
            ("odd", [["bb"], ["ab"], ["ba", "bc"], ["aa", "ac"]]),
        ]:
            self.assertEqual(wave(PIECE, (kind, LOTS), 3), Program(lots))
        self.assertEqual(wave(PIECE, ("left", [["a", "b"]]), 2), Program([["ab", "bb"], ["aa", "ba"]]))

    def test_one_piece(self):
        for kind in KINDS:
            self.assertEqual(wave(PIECE, (kind, LOTS), 1), Program([["ba"], ["aa"]]))
            self.assertEqual(wave(PIECE, [kind, (("a", "b"),)], 1), Program([["aa", "ba"]]))

    def test_by_words(self):
        chance = random.Random(5)
        for piece in drawn_pieces(20):
            for kind in KINDS:
                for n in (1, 2, 3, 4, 6):
                    lots = drawn_wave(piece, chance)[1]
                    told = [[cell + "abcdef"[k] for cell, k in lot] for lot in renewed_by_words(kind, lots, n)]
                    for pair in ((kind, lots), [kind, tuple(map(tuple, lots))]):
                        self.assertEqual(wave(piece, pair, n), Program(told))

    def test_no_waves(self):
        for thing in no_waves():
            for n in (1, 3, 0, None):
                with self.assertRaises(BadWave) as held:
                    wave(PIECE, thing, n)
                self.assertEqual((type(held.exception), vars(held.exception)), (BadWave, {}))

    def test_no_numbers(self):
        for thing in no_numbers():
            check_raises(self, BadNumber, thing, lambda: wave(PIECE, ("right", LOTS), thing))

    def test_what_is_passed_stays_and_arguments_by_name(self):
        pair = ["odd", [["b"], ["a"]]]
        self.assertEqual(wave(n=2, pair=pair, piece=PIECE), Program([["bb"], ["ab"], ["ba"], ["aa"]]))
        self.assertEqual(pair, ["odd", [["b"], ["a"]]])


class TestWavesPart(unittest.TestCase):
    def test_at_one_piece(self):
        piece = Piece(["a", "b"], [("a", 0, "b")])
        self.assertEqual(waves_part(piece, ("right", [["a"], ["b"]]), ("right", [["b"], ["a"]])), 1)
        self.assertEqual(waves_part(piece, ("left", [["a"], ["b"]]), ("together", [["a", "b"]])), 1)

    def test_at_two_pieces(self):
        piece = Piece(["a"], [("a", -1, "a")])
        self.assertEqual(waves_part(piece, ("right", [["a"]]), ("left", [["a"]])), 2)
        self.assertEqual(waves_part(piece, ("together", [["a"]]), ("right", [["a"]])), 2)

    def test_at_three_pieces(self):
        piece = Piece(["a"], [("a", -1, "a")])
        # In two pieces the second one reads the new worth of the first one, in three the third one does so or not.
        self.assertEqual(waves_part(piece, ("right", [["a"]]), ("even", [["a"]])), 3)
        self.assertEqual(waves_part(piece, ["odd", [["a"]]], ("together", (("a",),))), 3)

    def test_never(self):
        piece = Piece(["a"], [("a", 0, "a")])
        for one, other in itertools.product(KINDS, repeat=2):
            self.assertIsNone(waves_part(piece, (one, [["a"]]), (other, [["a"]])))
        piece = Piece(["a"], [("a", -1, "a")])
        self.assertIsNone(waves_part(piece, ("left", [["a"]]), ("together", [["a"]])))

    def test_a_wave_and_itself(self):
        chance = random.Random(9)
        for piece in drawn_pieces(20):
            pair = drawn_wave(piece, chance)
            self.assertIsNone(waves_part(piece, pair, pair))
            self.assertIsNone(waves_part(piece, pair, list(pair)))

    def test_the_least_of_many_numbers(self):
        chance = random.Random(1)
        met = []
        for piece in drawn_pieces(250):
            one, other = drawn_wave(piece, chance), drawn_wave(piece, chance)
            parted = [n for n in range(1, 7) if not same(row(piece, n), wave(piece, one, n), wave(piece, other, n))]
            expected = parted[0] if parted else None
            self.assertEqual(waves_part(piece, one, other), expected)
            met.append(expected)
        self.assertEqual(set(met), {None, 1, 2, 3})

    def test_no_waves(self):
        for thing in no_waves():
            for one, other in [(thing, ("odd", LOTS)), (("odd", LOTS), thing), (thing, thing)]:
                with self.assertRaises(BadWave):
                    waves_part(PIECE, one, other)

    def test_arguments_by_name(self):
        piece = Piece(["a"], [("a", -1, "a")])
        self.assertEqual(waves_part(other=("even", [["a"]]), one=("right", [["a"]]), piece=piece), 3)


if __name__ == "__main__":
    unittest.main()
