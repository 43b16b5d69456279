"""Soups: boards at random that come again from their seeds, and what becomes of many of them."""

from fateboards.censuses import FormCounter
from fateboards.checks import check_number
from fateboards.finders import LotFinder, check_search, fate_of
from fateboards.rules import check_rule

MOST_SEED = 2147483647
MOST_SIDE = 16
MOST_SEEDS = 40
NUMBERS = 2147483648


def soup(seed, wide, high):
    """The board of a seed and two sides."""
    check_number(seed, 0, MOST_SEED)
    _check_sides(wide, high)
    return _soup_of(seed, wide, high)


def _check_sides(wide, high):
    check_number(wide, 1, MOST_SIDE)
    check_number(high, 1, MOST_SIDE)


def _soup_of(seed, wide, high):
    number = seed
    cells = []
    for x in range(wide):
        for y in range(high):
            number = (1103515245 * number + 12345) % NUMBERS
            if number // 65536 % 2 == 1:
                cells.append((x, y, 1))
    return tuple(cells)


def tally(rule, seeds, wide, high, generations, most):
    """How many of the soups of the first seeds have a fate that is found, and the census of all their pieces."""
    check_rule(rule)
    check_number(seeds, 0, MOST_SEEDS)
    _check_sides(wide, high)
    check_search(generations, most)
    finder = LotFinder(rule, most)
    counter = FormCounter()
    many = 0
    for seed in range(seeds):
        told = fate_of(finder, _soup_of(seed, wide, high), generations)
        if told is not None:
            many += 1
            counter.include(told[1])
    return (many, counter.census())
