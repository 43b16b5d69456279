"""Moments: all that a session has between two things that are done in it."""

from fateboards.errors import NoFate, TooEarly
from fateboards.flocks import Flock
from fateboards.papers import board_of_flocks, parts_of
from fateboards.runs import Run

# A generation that no paper tells may be so many steps behind the start.
MOST_BEHIND = 2000


class Start:
    """A board, the generation at which it was laid, and what it becomes by steps.

    The last run is kept, since most generations that are asked for are not ahead of the one before.
    """

    def __init__(self, rule, generation, board):
        self.rule = rule
        self.first = generation
        self.laid = board
        self.last_run = None
        self.steps = 0

    def after(self, many):
        """What the board becomes in so many steps."""
        if many == 0:
            return self.laid
        if self.last_run is None or many < self.steps:
            self.last_run = Run(self.rule, self.laid)
            self.steps = 0
        while self.steps < many:
            self.last_run.advance()
            self.steps += 1
        return self.last_run.board()


class Fate:
    """A paper that is known: the generation that it tells first, behind the start, and its parts."""

    def __init__(self, rule, paper):
        self.first = paper[0]
        self.parts = parts_of(rule, paper)


class Moment:
    """A start, the generation that is looked at, and the fate that is known, None without any."""

    def __init__(self, start, looked_at, fate):
        self.start = start
        self.looked_at = looked_at
        self.fate = fate

    def at(self, generation):
        """The moment at which another generation is looked at."""
        many = generation - self.start.first
        if many < 0:
            raise TooEarly(self.start.first)
        if many > MOST_BEHIND and self.fate is None:
            raise NoFate("too far behind the start, and no fate is known")
        return Moment(self.start, generation, self.fate)

    def knowing(self, fate):
        """The moment at which a fate is known."""
        return Moment(self.start, self.looked_at, fate)

    def board(self):
        """The board that is looked at; TooMany if a paper tells it and it has too many cells."""
        if self._is_told():
            return board_of_flocks(self.flocks())
        return self._stepped_board()

    def flocks(self):
        """What is there, as flocks, whatever tells it."""
        if self._is_told():
            return self.fate.parts.flocks(self._behind() - self.fate.first)
        board = self._stepped_board()
        return [Flock(board, (0, 0), (0, 0), 1)] if board else []

    def _stepped_board(self):
        return self.start.after(self._behind())

    def _behind(self):
        return self.looked_at - self.start.first

    def _is_told(self):
        """Whether the fate that is known tells the generation that is looked at."""
        return self.fate is not None and self._behind() >= self.fate.first
