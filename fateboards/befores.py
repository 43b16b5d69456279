"""What came before: the wider pictures that become a picture in one step."""

from fateboards.checks import is_between
from fateboards.columns import ColumnStepper, cells_of, column_of
from fateboards.errors import BadNumber, BadPicture
from fateboards.rules import check_rule

MOST_COLUMNS = 30
MOST_ROWS = 3


def _check_arguments(rule, picture):
    check_rule(rule)
    if rule[2] > 2:
        raise BadNumber("a rule with more than two states")
    if not _is_picture(picture):
        raise BadPicture("not a picture")


def _is_picture(value):
    if not isinstance(value, tuple) or not 1 <= len(value) <= MOST_COLUMNS:
        return False
    if not all([_is_column(column) for column in value]):
        return False
    return all([len(column) == len(value[0]) for column in value])


def _is_column(value):
    if not isinstance(value, tuple) or not 1 <= len(value) <= MOST_ROWS:
        return False
    return all([is_between(cell, 0, 1) for cell in value])


class Befores:
    """The ways in which the columns of pictures of some height come of the columns of wider pictures.

    Two neighbouring columns of a wider picture are a pair, an integer too. ways has, for each column
    of a picture, what pairs may stand to both sides of its middle: the left pair, and the right one.
    """

    def __init__(self, rule, high):
        self.size = 1 << (high + 2)
        self.pairs = self.size * self.size
        self.ways = [[] for _ in range(1 << high)]
        stepper = ColumnStepper(rule, high)
        for pair in range(self.pairs):
            left, middle = divmod(pair, self.size)
            for right in range(self.size):
                self.ways[stepper.later(left, middle, right)].append((pair, middle * self.size + right))

    def how_many(self, columns):
        """How many wider pictures become the one of some columns."""
        counts = [1] * self.pairs
        for column in columns:
            later = [0] * self.pairs
            for pair, behind in self.ways[column]:
                later[behind] += counts[pair]
            counts = later
        return sum(counts)

    def least(self, columns):
        """The columns of the least wider picture that becomes the one of some columns, None without any."""
        fitting = self._fitting(columns)
        if True not in fitting[0]:
            return None
        pair = fitting[0].index(True)
        found = [pair // self.size, pair % self.size]
        for index, column in enumerate(columns):
            rest = fitting[index + 1]
            pair = min([behind for ahead, behind in self.ways[column] if ahead == pair and rest[behind]])
            found.append(pair % self.size)
        return found

    def _fitting(self, columns):
        """For each place ahead of, between and behind the columns: whether a pair there can be led to the end."""
        fitting = [[True] * self.pairs]
        for column in columns[::-1]:
            rest = fitting[-1]
            ahead = [False] * self.pairs
            for pair, behind in self.ways[column]:
                if rest[behind]:
                    ahead[pair] = True
            fitting.append(ahead)
        return fitting[::-1]


def befores_count(rule, picture):
    """How many wider pictures become a picture."""
    _check_arguments(rule, picture)
    return Befores(rule, len(picture[0])).how_many([column_of(cells) for cells in picture])


def first_before(rule, picture):
    """The least wider picture that becomes a picture, None if there is none."""
    _check_arguments(rule, picture)
    high = len(picture[0])
    columns = Befores(rule, high).least([column_of(cells) for cells in picture])
    if columns is None:
        return None
    return tuple([cells_of(column, high + 2) for column in columns])
