"""Boards, moves and places: what they are, and what is told and made of boards."""

from fateboards.checks import check_number, is_between
from fateboards.errors import BadBoard, BadMove, Clash

FAR = 10 ** 60


def check_board(board):
    """Raises BadBoard for all but a board."""
    if not isinstance(board, tuple):
        raise BadBoard(None)
    for index, cell in enumerate(board):
        if not _is_cell(cell):
            raise BadBoard(index)
        if index > 0 and cell[:2] <= board[index - 1][:2]:
            raise BadBoard(index)


def _is_cell(value):
    if not isinstance(value, tuple) or len(value) != 3:
        return False
    return _is_place(value[:2]) and is_between(value[2], 1, 5)


def check_move(move):
    """Raises BadMove for all but a move or a place."""
    if not _is_place(move):
        raise BadMove("not a pair of integers from -10 ** 60 to 10 ** 60")


def _is_place(value):
    if not isinstance(value, tuple) or len(value) != 2:
        return False
    return is_between(value[0], -FAR, FAR) and is_between(value[1], -FAR, FAR)


def _states_by_place(board):
    return {(x, y): state for x, y, state in board}


def state_at(board, place):
    """The state of the cell at a place, 0 for an empty one."""
    check_board(board)
    check_move(place)
    return _states_by_place(board).get(place, 0)


def shifted(board, move):
    """The board moved."""
    check_board(board)
    check_move(move)
    return _moved(board, move)


def _moved(board, move):
    right, down = move
    return tuple([(x + right, y + down, state) for x, y, state in board])


def turned(board, turn):
    """The board in one of its eight ways; from 4 on it is mirrored before it is turned."""
    check_board(board)
    check_number(turn, 0, 7)
    return tuple(sorted([_turned_cell(cell, turn) for cell in board]))


def _turned_cell(cell, turn):
    x, y, state = cell
    if turn >= 4:
        x = -x
    for _ in range(turn % 4):
        x, y = -y, x
    return (x, y, state)


def joined(board, other):
    """Both boards together."""
    check_board(board)
    check_board(other)
    taken = _states_by_place(board)
    if any([(x, y) in taken for x, y, _ in other]):
        raise Clash("a cell is in both boards")
    return tuple(sorted(board + other))


def box(board):
    """The least x and y and the greatest x and y of a board's cells, None for the empty board."""
    check_board(board)
    if not board:
        return None
    return _corners(board)


def _corners(board):
    ys = [cell[1] for cell in board]
    return (board[0][0], min(ys), board[-1][0], max(ys))


def living(board):
    """How many cells have the state 1."""
    check_board(board)
    return len([cell for cell in board if cell[2] == 1])


def normal(board):
    """The board moved to where its least x and y are 0, and the place where they were."""
    check_board(board)
    if not board:
        return ((), (0, 0))
    left, top = _corners(board)[:2]
    return (_moved(board, (-left, -top)), (left, top))


def _places_near(place):
    """All 25 places of cells that are near the one at a place, itself among them."""
    x, y = place
    return [(x + right, y + down) for right in range(-2, 3) for down in range(-2, 3)]


def are_near(board, other):
    """Whether some cell of a board is near one of the other."""
    check_board(board)
    check_board(other)
    taken = _states_by_place(other)
    for x, y, _ in board:
        if any([place in taken for place in _places_near((x, y))]):
            return True
    return False


def lots(board):
    """The parts of a board that hang together by near cells, as boards."""
    check_board(board)
    left = _states_by_place(board)
    found = []
    for x, y, _ in board:
        if (x, y) in left:
            found.append(_take_lot(left, (x, y)))
    return tuple(found)


def _take_lot(left, first):
    """Takes the lot of the cell at first out of the states that are left, and returns it."""
    lot = []
    waiting = [first]
    while waiting:
        place = waiting.pop()
        if place in left:
            lot.append((place[0], place[1], left[place]))
            del left[place]
            waiting.extend([near for near in _places_near(place) if near in left])
    return tuple(sorted(lot))
