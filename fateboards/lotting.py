"""Lots: the parts of a board that hang together by near cells."""

from fateboards.cells import corners


def lots_of(board):
    """All lots of a board, ascending by their least cells."""
    return few_lots(board, len(board), len(board))


def few_lots(board, many, most):
    """A board's lots, ascending by their least cells: not more than one more than many.

    If the first one has more than most cells, it is the only one, and perhaps not whole.
    """
    taker = LotTaker(board)
    lots = []
    for cell in board:
        if len(lots) <= many and taker.has(cell):
            lots.append(taker.take(cell, len(board) if lots else most))
            if len(lots[0]) > most:
                return lots
    return lots


class LotTaker:
    """Takes lots out of a board.

    The cells that are left are found by numbers: a step along x or y is always the same step from number to number.
    """

    def __init__(self, board):
        top, bottom = 0, 0
        if board:
            top, bottom = corners(board)[1::2]
        # Some numbers are no cell's, so that below the last cell of a column the next one is not near.
        self.high = bottom - top + 3
        self.steps = [right * self.high + down for right in range(-2, 3) for down in range(-2, 3)]
        self.left = {self._number(cell): cell for cell in board}

    def _number(self, cell):
        return cell[0] * self.high + cell[1]

    def has(self, cell):
        """Whether a cell of the board is left."""
        return self._number(cell) in self.left

    def take(self, cell, most):
        """Takes the lot of a cell that is left, as a board; not the whole lot if it has more than most cells."""
        waiting = [self._number(cell)]
        lot = [self.left.pop(waiting[0])]
        while waiting and len(lot) <= most:
            number = waiting.pop()
            near = [number + step for step in self.steps if number + step in self.left]
            lot.extend([self.left.pop(other) for other in near])
            waiting.extend(near)
        return tuple(sorted(lot))
