"""Moves and places, reckoned with as pairs of integers of any size."""


def plus(one, two):
    """The sum of two pairs."""
    return (one[0] + two[0], one[1] + two[1])


def minus(one, two):
    """What the first pair is more than the second one."""
    return (one[0] - two[0], one[1] - two[1])


def times(many, move):
    """A move made many times."""
    return (many * move[0], many * move[1])


def cross(one, two):
    """0 if two moves go along one line, otherwise not."""
    return one[0] * two[1] - one[1] * two[0]


def how_often(move, way):
    """How often a move is made on a way, rounded down along the axis that tells it; the move is not (0, 0)."""
    if move[0] != 0:
        return way[0] // move[0]
    return way[1] // move[1]
