"""Strips: how many boards rest in strips of any length."""

from fateboards.checks import FAR, check_number
from fateboards.columns import ColumnStepper
from fateboards.recurrences import far_term
from fateboards.rules import check_rule

MOST_HIGH = 3
MOST_WIDE = 200


def stills_in_strip(rule, high, wide):
    """How many boards of living cells alone lie in a strip and rest."""
    check_rule(rule)
    check_number(high, 1, MOST_HIGH)
    check_number(wide, 0, MOST_WIDE)
    return _numbers(rule, high, wide)[wide]


def stills_far(rule, high, wide):
    """What this number leaves divided by PRIME, for strips of any length."""
    check_rule(rule)
    check_number(high, 1, MOST_HIGH)
    check_number(wide, 0, FAR)
    # There are no more pairs of columns than this, and so no longer recurrence is needed.
    pairs = 1 << (2 * high)
    return far_term(_numbers(rule, high, 2 * pairs - 1), wide)


def _numbers(rule, high, most):
    """How many boards rest in the strips of the lengths from 0 to most.

    They are counted by the pair of their last two columns, from an empty pair ahead of
    the strip to an empty pair behind it: two columns more than the strip itself has.
    """
    ways = _ways(rule, high)
    counts = [0] * (1 << (2 * high))
    counts[0] = 1
    numbers = []
    for _ in range(most + 2):
        later = [0] * len(counts)
        for pair, behind in ways:
            later[behind] += counts[pair]
        counts = later
        numbers.append(counts[0])
    return numbers[1:]


def _ways(rule, high):
    """The pairs of columns that may follow one another, if what they have in common rests between them."""
    # Cells just above and below the strip must not become living either.
    stepper = ColumnStepper(rule, high + 2)
    size = 1 << high
    ways = []
    for pair in range(size * size):
        left, middle = divmod(pair, size)
        for right in range(size):
            if stepper.later(left << 2, middle << 2, right << 2) == middle << 1:
                ways.append((pair, middle * size + right))
    return ways
