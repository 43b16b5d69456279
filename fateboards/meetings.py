"""Meetings: what comes of two pieces that come near one another."""

from fateboards.boards import check_board
from fateboards.cells import made_normal, moved
from fateboards.censuses import census_of
from fateboards.checks import check_number
from fateboards.errors import BadPiece
from fateboards.finders import LotFinder, check_search, fate_of
from fateboards.rules import check_rule
from fateboards.runs import is_inland
from fateboards.throwings import together
from fateboards.tracks import check_rounds, checked_track, moved_track, near_generation

MOST_ACROSS = 12


def first_meeting(rule, piece, other):
    """The first generation at which two pieces are near, and the board of both then; None without any."""
    check_rule(rule)
    one = checked_track(rule, piece)
    two = checked_track(rule, other)
    check_rounds(one, two)
    return _meeting_at(one, two, near_generation(one, two))


def _meeting_at(one, two, generation):
    """A generation and the board of two tracks then; None if it is None, or they have a cell in common."""
    if generation is None:
        return None
    board = together([one.board_at(generation), two.board_at(generation)])
    return None if board is None else (generation, board)


def outcome(rule, piece, other, generations, most):
    """The census of what comes of two pieces, None if their meeting has no fate that is found."""
    check_rule(rule)
    one = checked_track(rule, piece)
    two = checked_track(rule, other)
    check_search(generations, most)
    check_rounds(one, two)
    return OutcomeFinder(rule, generations, most).outcome_at(one, two, near_generation(one, two))


def crossings(rule, piece, other, across, generations, most):
    """The outcomes for all moves of the other piece with which it comes near, but is not near at first."""
    check_rule(rule)
    one = checked_track(rule, piece)
    two = checked_track(rule, other)
    check_number(across, 0, MOST_ACROSS)
    check_search(generations, most)
    if not is_inland(other[0], across):
        raise BadPiece("not within the last places when it is moved")
    check_rounds(one, two)
    finder = OutcomeFinder(rule, generations, most)
    found = []
    for right in range(-across, across + 1):
        for down in range(-across, across + 1):
            track = _track_moved(rule, other, two, (right, down))
            generation = near_generation(one, track)
            if generation is not None and generation > 0:
                found.append(((right, down), finder.outcome_at(one, track, generation)))
    return tuple(found)


def _track_moved(rule, piece, track, move):
    """The track of a piece that was moved, of which the track is known where it was."""
    board = moved(piece[0], move)
    if is_inland(board, track.told):
        return moved_track(track, move)
    # So near the last places, the steps of the moved piece may lead beyond them.
    return checked_track(rule, (board,) + piece[1:])


class OutcomeFinder:
    """Finds the outcomes of meetings, and keeps them, since the same meetings come at other places."""

    def __init__(self, rule, generations, most):
        self.generations = generations
        self.most = most
        self.finder = LotFinder(rule, most)
        self.found = {}

    def outcome_at(self, one, two, generation):
        """The outcome of two tracks that are first near at a generation, or never, if it is None."""
        meeting = _meeting_at(one, two, generation)
        if meeting is None:
            return census_of([one, two])
        board = meeting[1]
        check_board(board)
        if not is_inland(board, self.generations + self.most):
            # So near the last places it matters where the board is.
            return self._find(board)
        shape = made_normal(board)[0]
        if shape not in self.found:
            self.found[shape] = self._find(shape)
        return self.found[shape]

    def _find(self, board):
        told = fate_of(self.finder, board, self.generations)
        return None if told is None else census_of(told[1])
