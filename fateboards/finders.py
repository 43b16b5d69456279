"""Finders: looking for the fate of a board, and for the thrower that it is."""

from fateboards.boards import check_board
from fateboards.cells import has_states, made_normal, moved
from fateboards.checks import check_number
from fateboards.forms import MOST_PERIOD, MOST_PIECE_CELLS, MOST_PIECES, MOST_THROWN
from fateboards.lotting import few_lots
from fateboards.rules import check_rule
from fateboards.runs import Run, boards_of, find_round, is_inland
from fateboards.throwings import stay_apart, throwing_of
from fateboards.tracks import Track, moved_track

MOST_GENERATIONS = 600


class LotFinder:
    """Finds the tracks of lots, and keeps them, since the same lots come again and again."""

    def __init__(self, rule, most):
        self.rule = rule
        self.most = most
        self.found = {}

    def tracks_of_lots(self, board, many):
        """The tracks of a board's lots in their order; None if there are more than many, or one does not come round."""
        return self.tracks_of(few_lots(board, many, MOST_PIECE_CELLS), many)

    def tracks_of(self, lots, many):
        """The tracks of lots; None if there are more than many, or one does not come round."""
        if len(lots) > many:
            return None
        tracks = []
        for lot in lots:
            track = self._track_of_lot(lot)
            if track is None:
                return None
            tracks.append(track)
        return tracks

    def _track_of_lot(self, lot):
        if len(lot) > MOST_PIECE_CELLS:
            return None
        if not is_inland(lot, self.most):
            # So near the last places it matters where the lot is.
            return self._find_track(lot)
        shape, place = made_normal(lot)
        if shape not in self.found:
            self.found[shape] = self._find_track(shape)
        track = self.found[shape]
        return None if track is None else moved_track(track, place)

    def _find_track(self, lot):
        told = find_round(self.rule, lot, self.most)
        if told is None:
            return None
        period, move = told
        return Track(boards_of(self.rule, lot, period - 1), move, period)


def _pieces_of_tracks(tracks):
    """The pieces of some tracks, with their least periods."""
    return tuple([(track.phases[0], track.period, track.move) for track in tracks])


def find_fate(rule, board, generations, most):
    """The paper of the first generation at which all lots come round and never come near; None without any."""
    check_rule(rule)
    check_board(board)
    check_search(generations, most)
    if not has_states(board, rule[2]):
        return None
    found = fate_of(LotFinder(rule, most), board, generations)
    if found is None:
        return None
    generation, tracks = found
    return (generation, _pieces_of_tracks(tracks), ())


def check_search(generations, most):
    """Raises BadNumber for all but the generations and the most that find_fate takes."""
    check_number(generations, 0, MOST_GENERATIONS)
    check_number(most, 1, MOST_PERIOD)


def fate_of(finder, board, generations):
    """The first generation at which all lots come round and never come near, and their tracks; None without any."""
    run = Run(finder.rule, board)
    for generation in range(generations + 1):
        if generation > 0:
            run.advance()
        tracks = finder.tracks_of_lots(run.board(), MOST_PIECES)
        if tracks is not None and stay_apart(tracks, ()):
            return (generation, tracks)
    return None


def find_thrower(rule, board, periods, most):
    """The thrower of the least period, and of these the least move, whose core is a board; None without any."""
    check_rule(rule)
    check_board(board)
    check_number(periods, 1, MOST_PERIOD)
    check_number(most, 1, MOST_PERIOD)
    if not 1 <= len(board) <= MOST_PIECE_CELLS or not has_states(board, rule[2]):
        return None
    finder = LotFinder(rule, most)
    run = Run(rule, board)
    for period in range(1, periods + 1):
        run.advance()
        if run.many > len(board):
            thrower = _thrower_behind(finder, board, period, run.board())
            if thrower is not None:
                return thrower
    return None


def _thrower_behind(finder, board, period, later):
    """The thrower of the least move whose core is a board that became a later one; None without any."""
    # A core has cells of at most so many lots: all others are left whole, whatever the move.
    many = MOST_THROWN + len(board)
    if len(few_lots(later, many, len(later))) > many:
        return None
    large = []
    for move in _moves_into(board, later, period):
        core = {cell: True for cell in moved(board, move)}
        if not any([_is_left(lot, core) for lot in large]):
            rest = tuple([cell for cell in later if cell not in core])
            lots = few_lots(rest, MOST_THROWN, MOST_PIECE_CELLS)
            if later[0] not in core and len(lots[0]) > MOST_PIECE_CELLS:
                large.append({cell: True for cell in lots[0]})
            thrower = _thrower_of_lots(finder, (board, period, move), lots)
            if thrower is not None:
                return thrower
    return None


def _is_left(lot, core):
    """Whether a part of the first lot, already too large, is left as it is beside a core, as the first lot again."""
    return not any([cell in lot for cell in core])


def _thrower_of_lots(finder, core, lots):
    """The thrower of a core, its period and its move, that throws some lots; None if it is not one."""
    tracks = finder.tracks_of(lots, MOST_THROWN)
    if tracks is None:
        return None
    thrower = core + (_pieces_of_tracks(tracks),)
    return thrower if throwing_of(finder.rule, thrower) is not None else None


def _moves_into(board, later, most):
    """The moves, ascending, by at most so many cells both ways, by which all cells of a board are in a later one."""
    there = {cell: True for cell in later}
    left, top, state = board[0]
    moves = []
    for x, y, other in later:
        move = (x - left, y - top)
        if other == state and max(abs(move[0]), abs(move[1])) <= most and _is_within(board, move, there):
            moves.append(move)
    return moves


def _is_within(board, move, there):
    """Whether all cells of a board, moved, are there."""
    right, down = move
    for x, y, state in board:
        if (x + right, y + down, state) not in there:
            return False
    return True
