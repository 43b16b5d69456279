"""Inverses of numbers, of which only what they leave when they are divided is looked at."""


def inverse(number, size):
    """What times number leaves 1 when it is divided by size, with which number has no common part."""
    before, now = 0, 1
    large, small = size, number % size
    while small != 0:
        many = large // small
        large, small = small, large - many * small
        before, now = now, before - many * now
    return before % size
