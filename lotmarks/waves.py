"""Waves: pieces that are repeated in a row, and orders in which the rows are renewed."""

from lotmarks.checks import is_count, is_integer, is_list, is_name_list
from lotmarks.errors import BadArrow, BadNumber, BadPiece, BadWave
from lotmarks.programs import Program
from lotmarks.versions import same
from lotmarks.webs import Web

LETTERS = "abcdefghijklmnopqrstuvwxyz"
KINDS = ("together", "right", "left", "even", "odd")
# Two waves that do the same for rows of so many pieces do the same for all rows.
ENOUGH = 3


class Piece:
    """Cells that are repeated in a row, and their arrows within a piece and from the pieces beside it."""

    def __init__(self, cells, arrows):
        if not is_name_list(cells) or len(cells) == 0 or not all([len(cell) <= 7 for cell in cells]):
            raise BadPiece()
        wrong = first_wrong_arrow(cells, arrows)
        if wrong is not None:
            raise BadArrow(wrong)
        self.cells = tuple(cells)
        self.arrows = tuple([tuple(arrow) for arrow in arrows])


def first_wrong_arrow(cells, arrows):
    """The index of the first thing that can't be an arrow of a piece, 0 if there is no list of arrows, or None."""
    if not is_list(arrows):
        return 0
    met = []
    for index, arrow in enumerate(arrows):
        if not is_piece_arrow(cells, arrow) or tuple(arrow) in met:
            return index
        met.append(tuple(arrow))
    return None


def is_piece_arrow(cells, thing):
    """Whether a thing is a triple of a cell, an offset and a cell."""
    if not is_list(thing) or len(thing) != 3 or not is_integer(thing[1]):
        return False
    return thing[0] in cells and thing[2] in cells and -1 <= thing[1] <= 1


def check_pieces(n):
    """Raise BadNumber unless rows of so many pieces can be named."""
    if not is_count(n) or not 1 <= n <= len(LETTERS):
        raise BadNumber(n)


def row(piece, n):
    """The web of a number of pieces in a row."""
    check_pieces(n)
    return Web([(cell + LETTERS[k], row_sources(piece, cell, k, n)) for k in range(n) for cell in piece.cells])


def row_sources(piece, cell, k, n):
    """The list of the sources of a cell of piece k, of n pieces."""
    found = [(source, k + offset) for source, offset, target in piece.arrows if target == cell]
    return [source + LETTERS[at] for source, at in found if 0 <= at < n]


def is_wave(piece, thing):
    """Whether a thing is a wave of a piece."""
    if not is_list(thing) or len(thing) != 2 or thing[0] not in KINDS:
        return False
    lots = thing[1]
    if not is_list(lots) or not all([is_name_list(lot) and len(lot) > 0 for lot in lots]):
        return False
    return sorted([cell for lot in lots for cell in lot]) == sorted(piece.cells)


def wave(piece, pair, n):
    """The program, for a number of pieces in a row, that a wave tells."""
    if not is_wave(piece, pair):
        raise BadWave()
    check_pieces(n)
    # In each group of pieces the lots are done at once.
    lots = [
        [cell + LETTERS[k] for k in group for cell in lot]
        for group in groups_of(pair[0], list(range(n))) for lot in pair[1] if len(group) > 0
    ]
    return Program(lots)


def groups_of(kind, pieces):
    """The lists of the pieces that are done at once, one behind another."""
    if kind == "together":
        return [pieces]
    if kind == "right":
        return [[k] for k in pieces]
    if kind == "left":
        return [[k] for k in pieces[::-1]]
    halves = [pieces[0::2], pieces[1::2]]
    return halves if kind == "even" else halves[::-1]


def waves_part(piece, one, other):
    """The least number of pieces for which two waves do not do the same, or None if there is none."""
    for n in range(1, ENOUGH + 1):
        if not same(row(piece, n), wave(piece, one, n), wave(piece, other, n)):
            return n
    return None
