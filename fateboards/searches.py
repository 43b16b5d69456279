"""Searches: all that rests or comes round in a small box, and how many pieces of each form there are."""

from fateboards.cells import corners
from fateboards.censuses import census_of
from fateboards.checks import check_number
from fateboards.errors import BadPiece, TooMany
from fateboards.rules import check_rule
from fateboards.runs import board_after, boards_of, find_round
from fateboards.tracks import Track, checked_track, form_of_track

MOST_SIDE = 12
MOST_BOX_CELLS = 12
MOST_BOX_PERIOD = 12


def stills_in_box(rule, wide, high):
    """All boards of living cells alone that rest and have just this box."""
    check_rule(rule)
    _check_sides(wide, high)
    _check_size(wide, high)
    return tuple([board for board in _boards_in_box(wide, high) if board_after(rule, board, 1) == board])


def pieces_in_box(rule, wide, high, most):
    """The forms, with their least periods and moves, of all boards of living cells alone with just this box."""
    check_rule(rule)
    _check_sides(wide, high)
    check_number(most, 1, MOST_BOX_PERIOD)
    _check_size(wide, high)
    forms = {}
    for board in _boards_in_box(wide, high):
        told = find_round(rule, board, most)
        if told is not None:
            period, move = told
            forms[form_of_track(Track(boards_of(rule, board, period - 1), move, period))] = True
    return tuple([(form,) + find_round(rule, form, most) for form in sorted(forms)])


def _check_sides(wide, high):
    check_number(wide, 1, MOST_SIDE)
    check_number(high, 1, MOST_SIDE)


def _check_size(wide, high):
    if wide * high > MOST_BOX_CELLS:
        raise TooMany(MOST_BOX_CELLS)


def _boards_in_box(wide, high):
    """All boards of living cells alone that have just this box, ascending."""
    cells = [(x, y, 1) for x in range(wide) for y in range(high)]
    boards = []
    for number in range(1, 1 << len(cells)):
        board = tuple([cell for index, cell in enumerate(cells) if number >> index & 1 == 1])
        if corners(board) == (0, 0, wide - 1, high - 1):
            boards.append(board)
    return sorted(boards)


def census(rule, pieces):
    """How many of the pieces of a tuple there are of each form."""
    check_rule(rule)
    if not isinstance(pieces, tuple):
        raise BadPiece("not a tuple of pieces")
    return census_of([checked_track(rule, piece) for piece in pieces])
