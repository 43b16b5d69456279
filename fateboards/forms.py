"""The forms of pieces, throwers and papers, whether these are such or not."""

from fateboards.boards import is_board, is_move
from fateboards.checks import is_between

MOST_PIECE_CELLS = 300
MOST_PERIOD = 240
MOST_THROWN = 6
MOST_PIECES = 60
MOST_PAPER_GENERATION = 2000


def has_piece_form(value):
    """Whether a value has the form of a piece."""
    return isinstance(value, tuple) and len(value) == 3 and _has_core_form(value)


def _has_core_form(value):
    """Whether the first three items of a tuple are a board, a period and a move as those of a piece."""
    board, period, move = value[:3]
    if not is_board(board) or not 1 <= len(board) <= MOST_PIECE_CELLS:
        return False
    return is_between(period, 1, MOST_PERIOD) and is_move(move)


def has_thrower_form(value):
    """Whether a value has the form of a thrower."""
    if not isinstance(value, tuple) or len(value) != 4 or not _has_core_form(value):
        return False
    thrown = value[3]
    return _are_pieces(thrown, MOST_THROWN) and len(thrown) > 0


def _are_pieces(value, most):
    """Whether a value is a tuple of at most so many values that have the form of pieces."""
    if not isinstance(value, tuple) or len(value) > most:
        return False
    return all([has_piece_form(piece) for piece in value])


def has_paper_form(value):
    """Whether a value has the form of a paper."""
    if not isinstance(value, tuple) or len(value) != 3:
        return False
    generation, pieces, throwers = value
    if not is_between(generation, 0, MOST_PAPER_GENERATION) or not _are_pieces(pieces, MOST_PIECES):
        return False
    if not isinstance(throwers, tuple) or len(throwers) > 1:
        return False
    return all([has_thrower_form(thrower) for thrower in throwers])
