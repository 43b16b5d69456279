"""Whether, and when, what moves on and on comes near."""

from fateboards.boards import check_move
from fateboards.cells import places_near
from fateboards.reaches import first_touch, reach_of


def first_near_of(start, move):
    """The least k from 0 on for which start + k * move is from -2 to 2 both ways, None without any."""
    check_move(start)
    check_move(move)
    return first_touch(start + start, move)


def comes_near(start, one, two):
    """Whether start + a * one + b * two is from -2 to 2 both ways for some integers a and b from 0 on."""
    check_move(start)
    check_move(one)
    check_move(two)
    reach = reach_of(one, two)
    key, at = reach.locate(start)
    for place in places_near((0, 0)):
        other, to = reach.locate(place)
        if other == key and reach.leads(at, to):
            return True
    return False
