"""Throwings: what a thrower's core and all that it ever throws are, at all generations."""

from fateboards.cells import has_states, moved, states_by_place
from fateboards.runs import boards_of
from fateboards.tracks import (
    Track, check_rounds, check_throws, is_near_elder, moved_track, near_generation, track_of,
)


class Throwing:
    """A thrower that was judged: the tracks of its core and of the pieces that are thrown.

    The core is as it is at first; the pieces are as they are when they are thrown for the first time.
    """

    def __init__(self, core, thrown):
        self.core = core
        self.thrown = thrown
        self.period = core.period
        self.move = core.move


def throwing_of(rule, thrower):
    """The throwing of a value that has the form of a thrower, None if it is not a thrower."""
    core, period, move, pieces = thrower
    if not has_states(core, rule[2]):
        return None
    thrown = tracks_of(rule, pieces)
    if thrown is None:
        return None
    boards = boards_of(rule, core, period)
    if together([moved(core, move)] + [piece[0] for piece in pieces]) != boards[period]:
        return None
    throwing = Throwing(Track(boards[:period], move, period), thrown)
    return throwing if _stays_apart(throwing) else None


def tracks_of(rule, pieces):
    """The tracks of values that have the form of pieces, None if one of them is not a piece."""
    tracks = []
    for piece in pieces:
        track = track_of(rule, piece)
        if track is None:
            return None
        tracks.append(track)
    return tracks


def together(boards):
    """The boards together as one, None if a cell is in two of them."""
    cells = sorted([cell for board in boards for cell in board])
    if len(states_by_place(cells)) < len(cells):
        return None
    return tuple(cells)


def _stays_apart(throwing):
    """Whether nothing that is thrown is ever near the core or near something else that is thrown."""
    # The core is looked at from its first throw on, when it has been moved once.
    core = moved_track(throwing.core, throwing.move)
    for index, young in enumerate(throwing.thrown):
        if are_ever_near(young, core):
            return False
        for place, other in enumerate(throwing.thrown):
            if place > index and are_ever_near(young, other):
                return False
            if is_ever_near_elder(throwing, young, other):
                return False
    return True


def are_ever_near(one, other):
    """Whether two tracks are ever near one another."""
    check_rounds(one, other)
    return near_generation(one, other) is not None


def is_ever_near_elder(throwing, young, elder):
    """Whether a thrown track is ever near one that is some throws elder."""
    check_throws(young, elder, throwing.period)
    return is_near_elder(young, elder, throwing.period, throwing.move)


def is_near_throwing(throwing, track):
    """Whether a track is ever near the core or anything that is thrown."""
    if are_ever_near(track, throwing.core):
        return True
    # Behind so many throws, the track is like one that was thrown that much earlier, and one move farther on.
    elder = moved_track(track, throwing.move)
    for young in throwing.thrown:
        if is_ever_near_elder(throwing, young, elder):
            return True
    return False


def stay_apart(tracks, throwings):
    """Whether no two of some tracks, nor one of them and something of a throwing, are ever near one another."""
    for index, track in enumerate(tracks):
        for other in tracks[index + 1:]:
            if are_ever_near(track, other):
                return False
        for throwing in throwings:
            if is_near_throwing(throwing, track):
                return False
    return True
