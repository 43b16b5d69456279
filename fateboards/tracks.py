"""Tracks: what comes round for ever by itself, and when two of them are near one another."""

from math import gcd, lcm

from fateboards.cells import (
    box_around, corners, has_states, made_normal, move_between, moved, moved_box, places_near, turned_board,
)
from fateboards.errors import BadPiece, TooMany
from fateboards.forms import has_piece_form
from fateboards.pairs import minus, plus, times
from fateboards.reaches import first_touch, reach_of
from fateboards.runs import boards_of

MOST_ROUND = 6000


class Track:
    """Boards that come round: phases are those of one period, move is how far it has gone behind each.

    told is the period that its piece tells, of which the period of the track is a part.
    """

    def __init__(self, phases, move, told):
        self.phases = phases
        self.move = move
        self.told = told
        self.period = len(phases)
        self.around = box_around([corners(phase) for phase in phases])

    def way(self, generation):
        """How far it has gone in the full periods up to a generation."""
        return times(generation // self.period, self.move)

    def phase_at(self, generation):
        """Its board at a generation, as it would be without a move."""
        return self.phases[generation % self.period]

    def board_at(self, generation):
        """Its board at a generation."""
        return moved(self.phase_at(generation), self.way(generation))

    def span(self, many):
        """The box of all that it is at the generations from 0 to many - 1, of full periods."""
        return box_around([self.around, moved_box(self.around, self.way(many - 1))])


def moved_track(track, move):
    """The track of the same boards, moved."""
    return Track([moved(phase, move) for phase in track.phases], track.move, track.told)


def track_of(rule, piece):
    """The track of a value that has the form of a piece, None if it is not a piece."""
    board, told, move = piece
    if not has_states(board, rule[2]):
        return None
    boards = boards_of(rule, board, told)
    if move_between(board, boards[told]) != move:
        return None
    for period in range(1, told):
        least_move = move_between(board, boards[period])
        if least_move is not None:
            return Track(boards[:period], least_move, told)
    return Track(boards[:told], move, told)


def checked_track(rule, piece):
    """The track of a piece; BadPiece for all but pieces."""
    track = track_of(rule, piece) if has_piece_form(piece) else None
    if track is None:
        raise BadPiece("not a piece of the rule")
    return track


def form_of_track(track):
    """The least normal board of a track, at all its generations and in all eight ways."""
    return min([made_normal(turned_board(phase, turn))[0] for phase in track.phases for turn in range(8)])


def check_rounds(one, other):
    """Raises TooMany if two tracks come round together too late."""
    if lcm(one.told, other.told) > MOST_ROUND:
        raise TooMany(MOST_ROUND)


def near_generation(one, other):
    """The least generation at which two tracks are near one another, None if they never are."""
    many = lcm(one.period, other.period)
    drift = minus(other.way(many), one.way(many))
    if first_touch(_gaps(one.span(many), other.span(many)), drift) is None:
        return None
    if len(one.phases) * len(one.phases[0]) > len(other.phases) * len(other.phases[0]):
        # The other way round they are near at the same generations, with fewer places to keep.
        one, other, drift = other, one, times(-1, drift)
    reach = reach_of(drift, (0, 0))
    best = None
    for phase in range(one.period):
        halo = _halo(one.phases[phase], reach)
        for generation in range(phase, many, one.period):
            if best is not None and generation >= best:
                break
            move = minus(other.way(generation), one.way(generation))
            later = _least_way(halo, reach, other.phase_at(generation), move)
            if later is not None and (best is None or generation + later * many < best):
                best = generation + later * many
    return best


def _gaps(box, other):
    """The box of the differences of places in two boxes."""
    return (other[0] - box[2], other[1] - box[3], other[2] - box[0], other[3] - box[1])


def _halo(board, reach):
    """Where, for a reach, the places near the cells of a board are at, by their keys, ascending."""
    places = {place: True for x, y, _ in board for place in places_near((x, y))}
    found = {}
    for place in places:
        key, at = reach.locate(place)
        found.setdefault(key, []).append(at)
    return {key: sorted(found[key]) for key in found}


def _least_way(halo, reach, board, move):
    """How often the reach's first move must be made, at least, to lead a cell of a board, moved, into a halo."""
    least = None
    for x, y, _ in board:
        key, at = reach.locate(plus((x, y), move))
        if key in halo:
            to = _first_from(halo[key], at)
            if to is not None and (least is None or to - at < least):
                least = to - at
    return least


def _first_from(ascending, least):
    """The first of some ascending numbers that is not less than the least one, None without any."""
    low, high = 0, len(ascending)
    while low < high:
        middle = (low + high) // 2
        if ascending[middle] < least:
            low = middle + 1
        else:
            high = middle
    return ascending[low] if low < len(ascending) else None


def check_throws(young, elder, period):
    """Raises TooMany if a thrown track and an elder one, and the throws of a period, come round together too late."""
    if lcm(young.told, elder.told) * lcm(period, elder.told) // period > MOST_ROUND:
        raise TooMany(MOST_ROUND)


def is_near_elder(young, elder, period, move):
    """Whether a track is ever near an elder one that is, for some throws from 1 on, a period older and a move back."""
    many = lcm(young.period, elder.period)
    throws = elder.period // gcd(period, elder.period)
    drift = minus(elder.way(many), young.way(many))
    reach = reach_of(drift, minus(elder.way(throws * period), times(throws, move)))
    for phase in range(young.period):
        halo = _halo(young.phases[phase], reach)
        for generation in range(phase, many, young.period):
            for throw in range(1, throws + 1):
                age = generation + throw * period
                back = plus(young.way(generation), times(throw, move))
                if _leads_into(halo, reach, elder.phase_at(age), minus(elder.way(age), back)):
                    return True
    return False


def _leads_into(halo, reach, board, move):
    """Whether a reach leads some cell of a board, moved, into a halo."""
    for x, y, _ in board:
        key, at = reach.locate(plus((x, y), move))
        if key in halo and any([reach.leads(at, to) for to in halo[key]]):
            return True
    return False
