"""Reaches: where two moves, made as often as one likes, may lead.

A reach gives each place a key, and tells where it is at along the moves: what can be led
from one place to another has the same key there, and the reach tells by the two "at" whether
it is led there by making each of its two moves some number of times from 0 on.
"""

from math import gcd

from fateboards.inverses import inverse
from fateboards.pairs import cross, how_often, minus, times

NEAR = 2


def first_touch(box, move):
    """The least k from 0 on for which a box, moved k times, has a part from -2 to 2 both ways; None without any."""
    least, most = 0, None
    for low, high, way in ((box[0], box[2], move[0]), (box[1], box[3], move[1])):
        if way < 0:
            low, high, way = -high, -low, -way
        if way == 0:
            if low > NEAR or high < -NEAR:
                return None
        else:
            least = max(least, -((NEAR + high) // way))
            last = (NEAR - low) // way
            most = last if most is None else min(most, last)
    if most is not None and most < least:
        return None
    return least


def reach_of(one, two):
    """The reach of two moves."""
    if cross(one, two) != 0:
        return PlaneReach(one, two)
    if one == (0, 0) and two == (0, 0):
        return NoReach()
    return _line_reach(one, two)


class NoReach:
    """The reach of two moves that do not move."""

    def locate(self, place):
        """A place's key, and where it is at."""
        return (place, 0)

    def leads(self, at, to):
        """Whether the moves lead from one place to another that has the same key."""
        return at == to


class PlaneReach:
    """The reach of two moves that do not go along one line."""

    def __init__(self, one, two):
        self.one = one
        self.two = two
        self.area = cross(one, two)

    def locate(self, place):
        """A place's key, and where it is at."""
        ones = cross(place, self.two) // self.area
        twos = cross(self.one, place) // self.area
        key = minus(minus(place, times(ones, self.one)), times(twos, self.two))
        return (key, (ones, twos))

    def leads(self, at, to):
        """Whether the moves lead from one place to another that has the same key."""
        return at[0] <= to[0] and at[1] <= to[1]


def _line_reach(one, two):
    """The reach of two moves that go along one line, and of which at least one is not (0, 0)."""
    if one == (0, 0):
        one, two = two, one
    # Of all moves along the line, the shortest one: both are multiples of it.
    part = gcd(one[0], one[1])
    shortest = (one[0] // part, one[1] // part)
    ones, twos = part, how_often(shortest, two)
    common = gcd(ones, twos)
    return LineReach(times(common, shortest), ones // common, twos // common)


class LineReach:
    """The reach of two moves along one line: of ones, from 1 on, and twos times a unit, without a common part."""

    def __init__(self, unit, ones, twos):
        self.unit = unit
        self.ones = ones
        self.twos = twos
        self.inverse = inverse(twos, ones)

    def locate(self, place):
        """A place's key, and where it is at."""
        at = how_often(self.unit, place)
        return (minus(place, times(at, self.unit)), at)

    def leads(self, at, to):
        """Whether the moves lead from one place to another that has the same key."""
        if self.twos < 0:
            # To and fro, any way can be gone.
            return True
        way = to - at
        # With so many second moves at least, the first ones can do the rest if it is not too much already.
        least = way * self.inverse % self.ones
        return least * self.twos <= way
