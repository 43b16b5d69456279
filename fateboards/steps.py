"""Steps: what a rule makes of a board."""

from fateboards.boards import check_board
from fateboards.checks import check_number
from fateboards.rules import check_rule
from fateboards.runs import board_after

MOST_STEPS = 2000


def step(rule, board):
    """What a board becomes in one step."""
    check_rule(rule)
    check_board(board)
    return board_after(rule, board, 1)


def steps(rule, board, many):
    """What a board becomes in many steps."""
    check_rule(rule)
    check_board(board)
    check_number(many, 0, MOST_STEPS)
    return board_after(rule, board, many)
