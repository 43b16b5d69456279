"""Flocks: what of one kind there is at one generation, told without a look at each of them."""

from math import gcd

from fateboards.cells import box_around, corners, moved, moved_box
from fateboards.pairs import how_often, minus, plus, times


class Flock:
    """Many times the same cells: at first moved by start, and by one more move for each further time."""

    def __init__(self, cells, start, move, many):
        self.cells = cells
        self.start = start
        self.move = move
        self.many = many

    def state_at(self, place):
        """The state of the cell at a place, 0 for an empty one."""
        for x, y, state in self.cells:
            if self._goes(minus(minus(place, self.start), (x, y))):
                return state
        return 0

    def _goes(self, way):
        """Whether a way is one that a cell goes from its first time to some time."""
        if way == (0, 0):
            return True
        if self.move == (0, 0):
            return False
        often = how_often(self.move, way)
        return 0 < often < self.many and times(often, self.move) == way

    def living(self):
        """How many cells are living."""
        return self.many * len([cell for cell in self.cells if cell[2] == 1])

    def size(self):
        """How many cells are not empty."""
        return self.many * len(self.cells)

    def box(self):
        """The box of all its cells."""
        first = moved_box(corners(self.cells), self.start)
        return box_around([first, moved_box(first, times(self.many - 1, self.move))])

    def boards(self):
        """The list of its boards, one for each time."""
        return [moved(self.cells, plus(self.start, times(often, self.move))) for often in range(self.many)]


def flock_of(track, generation):
    """What a track is at a generation."""
    return Flock(track.phase_at(generation), track.way(generation), (0, 0), 1)


def flocks_of_throwing(throwing, generation):
    """What a throwing is at a generation: its core, and for each kind of thrown piece some flocks."""
    flocks = [flock_of(throwing.core, generation)]
    for track in throwing.thrown:
        flocks.extend(_flocks_of_thrown(throwing, track, generation))
    return flocks


def _flocks_of_thrown(throwing, track, generation):
    """All that there is of one thrown track: a flock of those that are in the same phase."""
    throws = generation // throwing.period
    # So many throws later, a thrown piece is in the same phase as the one before.
    apart = track.period // gcd(throwing.period, track.period)
    move = minus(times(apart, throwing.move), track.way(apart * throwing.period))
    flocks = []
    for throw in range(1, min(apart, throws) + 1):
        age = generation - throw * throwing.period
        start = plus(track.way(age), times(throw - 1, throwing.move))
        flocks.append(Flock(track.phase_at(age), start, move, (throws - throw) // apart + 1))
    return flocks
