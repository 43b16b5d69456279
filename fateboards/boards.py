"""Boards, moves and places: what they are, and what is told and made of boards."""

from fateboards.cells import corners, made_normal, moved, places_near, states_by_place, turned_board
from fateboards.checks import FAR, check_number, is_between
from fateboards.errors import BadBoard, BadMove, Clash
from fateboards.lotting import lots_of


def check_board(board):
    """Raises BadBoard for all but a board."""
    if not isinstance(board, tuple):
        raise BadBoard(None)
    for index, cell in enumerate(board):
        if not _is_cell(cell):
            raise BadBoard(index)
        if index > 0 and cell[:2] <= board[index - 1][:2]:
            raise BadBoard(index)


def is_board(value):
    """Whether a value is a board."""
    try:
        check_board(value)
    except BadBoard:
        return False
    return True


def _is_cell(value):
    if not isinstance(value, tuple) or len(value) != 3:
        return False
    return is_move(value[:2]) and is_between(value[2], 1, 5)


def check_move(move):
    """Raises BadMove for all but a move or a place."""
    if not is_move(move):
        raise BadMove("not a pair of integers from -10 ** 60 to 10 ** 60")


def is_move(value):
    """Whether a value is a move or a place."""
    if not isinstance(value, tuple) or len(value) != 2:
        return False
    return is_between(value[0], -FAR, FAR) and is_between(value[1], -FAR, FAR)


def state_at(board, place):
    """The state of the cell at a place, 0 for an empty one."""
    check_board(board)
    check_move(place)
    return states_by_place(board).get(place, 0)


def shifted(board, move):
    """The board moved."""
    check_board(board)
    check_move(move)
    return moved(board, move)


def turned(board, turn):
    """The board in one of its eight ways; from 4 on it is mirrored before it is turned."""
    check_board(board)
    check_number(turn, 0, 7)
    return turned_board(board, turn)


def joined(board, other):
    """Both boards together."""
    check_board(board)
    check_board(other)
    taken = states_by_place(board)
    if any([(x, y) in taken for x, y, _ in other]):
        raise Clash("a cell is in both boards")
    return tuple(sorted(board + other))


def box(board):
    """The least x and y and the greatest x and y of a board's cells, None for the empty board."""
    check_board(board)
    if not board:
        return None
    return corners(board)


def living(board):
    """How many cells have the state 1."""
    check_board(board)
    return len([cell for cell in board if cell[2] == 1])


def normal(board):
    """The board moved to where its least x and y are 0, and the place where they were."""
    check_board(board)
    return made_normal(board)


def are_near(board, other):
    """Whether some cell of a board is near one of the other."""
    check_board(board)
    check_board(other)
    taken = states_by_place(other)
    for x, y, _ in board:
        if any([place in taken for place in places_near((x, y))]):
            return True
    return False


def lots(board):
    """The parts of a board that hang together by near cells, as boards."""
    check_board(board)
    return tuple(lots_of(board))
