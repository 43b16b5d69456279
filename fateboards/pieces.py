"""Pieces: boards that come round, and when two of them are near one another."""

from fateboards.boards import check_board
from fateboards.checks import FAR, check_number
from fateboards.forms import MOST_PERIOD, has_piece_form
from fateboards.rules import check_rule
from fateboards.runs import find_round
from fateboards.tracks import check_rounds, checked_track, form_of_track, near_generation, track_of


def shows_piece(rule, value):
    """Whether a value is a piece of a rule."""
    check_rule(rule)
    return has_piece_form(value) and track_of(rule, value) is not None


def round_of(rule, board, most):
    """The least period, from 1 to most, with which a board comes round, and its move; None without any."""
    check_rule(rule)
    check_board(board)
    check_number(most, 1, MOST_PERIOD)
    return find_round(rule, board, most)


def piece_at(rule, piece, generation):
    """The board that a piece is at a generation."""
    check_rule(rule)
    track = checked_track(rule, piece)
    check_number(generation, 0, FAR)
    return track.board_at(generation)


def first_near(rule, piece, other):
    """The least generation at which two pieces, each by itself, are near one another; None if they never are."""
    check_rule(rule)
    one = checked_track(rule, piece)
    two = checked_track(rule, other)
    check_rounds(one, two)
    return near_generation(one, two)


def form_of(rule, piece):
    """The least normal board of a piece, at all its generations and in all eight ways."""
    check_rule(rule)
    return form_of_track(checked_track(rule, piece))


def kind_of(rule, piece):
    """Whether a piece "travels", "rests" or "turns"."""
    check_rule(rule)
    track = checked_track(rule, piece)
    if track.move != (0, 0):
        return "travels"
    return "rests" if track.period == 1 else "turns"
