"""What boards become, step by step: the one place where boards are stepped."""

from fateboards.cells import corners, move_between
from fateboards.checks import FAR
from fateboards.errors import TooMany
from fateboards.floors import SPARE, floor_of

MOST_CELLS = 3000


class Run:
    """A board that is stepped; many is how many cells it has now."""

    def __init__(self, rule, board):
        self.rule = rule
        self.floor = floor_of(rule, board)
        self.spare = SPARE
        self.many = len(board)

    def advance(self):
        """Makes one step; TooMany if there are too many cells ahead of it, BadBoard if one gets too far."""
        if self.many > MOST_CELLS:
            raise TooMany(MOST_CELLS)
        if self.spare == 0:
            self.floor = floor_of(self.rule, self.floor.board())
            self.spare = SPARE
        self.floor.advance()
        self.spare -= 1
        self.many = self.floor.size()

    def board(self):
        """The board that is there now."""
        return self.floor.board()

    def move_from(self, board):
        """The move that makes what is there now of a board, None if there is none."""
        if self.many != len(board):
            return None
        return move_between(board, self.board())


def board_after(rule, board, many):
    """What a board becomes in so many steps."""
    if many == 0:
        return board
    run = Run(rule, board)
    for _ in range(many):
        run.advance()
    return run.board()


def boards_of(rule, board, many):
    """The list of a board and of what it becomes in 1, 2 and so on to so many steps."""
    run = Run(rule, board)
    found = [board]
    for _ in range(many):
        run.advance()
        found.append(run.board())
    return found


def find_round(rule, board, most):
    """The least period, up to most, with which a board comes round, and its move; None without any."""
    if not board:
        return (1, (0, 0))
    inland = is_inland(board, most)
    run = Run(rule, board)
    mark = None
    for period in range(1, most + 1):
        run.advance()
        move = run.move_from(board)
        if move is not None:
            return (period, move)
        # What comes round later than the board itself never becomes it again.
        if inland and mark is not None and run.move_from(mark) is not None:
            return None
        if period & (period - 1) == 0:
            mark = run.board()
    return None


def is_inland(board, many):
    """Whether no cell of what a board, which is not empty, becomes in so many steps can get too far."""
    left, top, right, bottom = corners(board)
    return min(left, top) - many >= -FAR and max(right, bottom) + many <= FAR
