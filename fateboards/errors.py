"""All errors that the program raises."""


class BoardError(ValueError):
    """The base class of all errors."""


class BadRule(BoardError):
    """A value is not a rule."""


class BadBoard(BoardError):
    """A value is not a board; index tells its first wrong item, None if no item is to blame."""

    def __init__(self, index):
        super().__init__(f"not a board, first wrong item: {index}")
        self.index = index


class BadNumber(BoardError):
    """A value is not an integer in the limits that are asked for."""


class Clash(BoardError):
    """A cell is in two boards that are to lie together."""


class TooMany(BoardError):
    """There is more of something than most, the greatest number that is allowed."""

    def __init__(self, most):
        super().__init__(f"more than {most}")
        self.most = most


class NotText(BoardError):
    """A value is not a string."""


class InvalidText(BoardError):
    """A text is not of the form that is asked for; place is the index where it goes wrong."""

    def __init__(self, place):
        super().__init__(f"the text goes wrong at {place}")
        self.place = place


class BadMove(BoardError):
    """A value is not a move or a place."""


class BadPiece(BoardError):
    """A value is not a piece."""


class BadPaper(BoardError):
    """A value is not a paper."""


class TooEarly(BoardError):
    """A generation is earlier than first, the first one of which something is told."""

    def __init__(self, first):
        super().__init__(f"nothing is told of generations before {first}")
        self.first = first


class NoFate(BoardError):
    """No fate is known or found."""


class NothingToUndo(BoardError):
    """There is nothing to undo, or nothing to redo."""


class Unasked(BoardError):
    """A line is not one that a desk answers."""


class BadPicture(BoardError):
    """A value is not a picture."""
