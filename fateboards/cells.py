"""What is told and made of boards that are known to be boards, which is not checked again here."""


def states_by_place(board):
    """The states of a board's cells, by their places."""
    return {(x, y): state for x, y, state in board}


def has_states(board, states):
    """Whether a rule of so many states has all states of a board."""
    return all([cell[2] < states for cell in board])


def moved(board, move):
    """The board moved."""
    right, down = move
    return tuple([(x + right, y + down, state) for x, y, state in board])


def move_between(board, other):
    """The move that makes the other board of a board, None if there is none."""
    if len(board) != len(other):
        return None
    if not board:
        return (0, 0)
    move = (other[0][0] - board[0][0], other[0][1] - board[0][1])
    if moved(board, move) != other:
        return None
    return move


def turned_board(board, turn):
    """The board in one of its eight ways; from 4 on it is mirrored before it is turned."""
    return tuple(sorted([_turned_cell(cell, turn) for cell in board]))


def _turned_cell(cell, turn):
    x, y, state = cell
    if turn >= 4:
        x = -x
    for _ in range(turn % 4):
        x, y = -y, x
    return (x, y, state)


def corners(board):
    """The least x and y and the greatest x and y of a board's cells, of which there is at least one."""
    ys = [cell[1] for cell in board]
    return (board[0][0], min(ys), board[-1][0], max(ys))


def box_around(boxes):
    """The box that just holds some boxes, of which there is at least one."""
    return (
        min([box[0] for box in boxes]),
        min([box[1] for box in boxes]),
        max([box[2] for box in boxes]),
        max([box[3] for box in boxes]),
    )


def moved_box(box, move):
    """A box moved."""
    right, down = move
    return (box[0] + right, box[1] + down, box[2] + right, box[3] + down)


def made_normal(board):
    """The board moved to where its least x and y are 0, and the place where they were."""
    if not board:
        return ((), (0, 0))
    left, top = corners(board)[:2]
    return (moved(board, (-left, -top)), (left, top))


def places_near(place):
    """All 25 places of cells that are near the one at a place, itself among them."""
    x, y = place
    return [(x + right, y + down) for right in range(-2, 3) for down in range(-2, 3)]
