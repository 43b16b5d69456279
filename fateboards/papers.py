"""Papers: whether they tell a board's fate, and what they tell of a generation."""

from fateboards.boards import check_board, check_move
from fateboards.cells import box_around, has_states
from fateboards.checks import FAR, check_number
from fateboards.errors import BadPaper, TooEarly, TooMany
from fateboards.flocks import flock_of, flocks_of_throwing
from fateboards.forms import has_paper_form
from fateboards.rules import check_rule
from fateboards.runs import MOST_CELLS, board_after
from fateboards.throwings import stay_apart, throwing_of, together, tracks_of


class Parts:
    """The parts of a paper that were judged: the tracks of its pieces, and its throwings, at most one."""

    def __init__(self, tracks, throwings):
        self.tracks = tracks
        self.throwings = throwings

    def flocks(self, generation):
        """What the parts are at a generation, from the paper's on."""
        flocks = [flock_of(track, generation) for track in self.tracks]
        for throwing in self.throwings:
            flocks.extend(flocks_of_throwing(throwing, generation))
        return flocks


def parts_of(rule, paper):
    """The parts of a value that has the form of a paper, None if they are not such, or come near."""
    pieces, throwers = paper[1:]
    tracks = tracks_of(rule, pieces)
    if tracks is None:
        return None
    throwings = []
    for thrower in throwers:
        throwing = throwing_of(rule, thrower)
        if throwing is None:
            return None
        throwings.append(throwing)
    if _first_board(paper) is None or not stay_apart(tracks, throwings):
        return None
    return Parts(tracks, throwings)


def _first_board(paper):
    """The boards of all pieces and of the core together, None if a cell is in two of them."""
    return together([part[0] for part in paper[1] + paper[2]])


def shows_fate(rule, board, value):
    """Whether a value is a paper of a board's fate."""
    check_rule(rule)
    check_board(board)
    if not has_paper_form(value) or not has_states(board, rule[2]):
        return False
    if parts_of(rule, value) is None:
        return False
    return board_after(rule, board, value[0]) == _first_board(value)


def _flocks_told(rule, paper, generation):
    """What a paper tells of a generation, as flocks."""
    check_rule(rule)
    parts = parts_of(rule, paper) if has_paper_form(paper) else None
    if parts is None:
        raise BadPaper("not a paper of the rule")
    check_number(generation, 0, FAR)
    first = paper[0]
    if generation < first:
        raise TooEarly(first)
    return parts.flocks(generation - first)


def fate_cell(rule, paper, generation, place):
    """The state of a cell at a generation."""
    flocks = _flocks_told(rule, paper, generation)
    check_move(place)
    return cell_of_flocks(flocks, place)


def cell_of_flocks(flocks, place):
    """The state of a cell in some flocks."""
    for flock in flocks:
        state = flock.state_at(place)
        if state > 0:
            return state
    return 0


def fate_living(rule, paper, generation):
    """How many cells are living at a generation."""
    return living_of_flocks(_flocks_told(rule, paper, generation))


def living_of_flocks(flocks):
    """How many cells of some flocks are living."""
    return sum([flock.living() for flock in flocks])


def fate_box(rule, paper, generation):
    """The least x and y and the greatest x and y of all cells at a generation, None without a cell."""
    return box_of_flocks(_flocks_told(rule, paper, generation))


def box_of_flocks(flocks):
    """The box of the cells of some flocks, None without a cell."""
    if not flocks:
        return None
    return box_around([flock.box() for flock in flocks])


def fate_board(rule, paper, generation):
    """The whole board at a generation."""
    return board_of_flocks(_flocks_told(rule, paper, generation))


def board_of_flocks(flocks):
    """The board of some flocks; TooMany if it has too many cells."""
    # Each throw leaves a cell at least, so that too many throws are too many cells, too.
    if sum([flock.size() for flock in flocks]) > MOST_CELLS:
        raise TooMany(MOST_CELLS)
    return tuple(sorted([cell for flock in flocks for board in flock.boards() for cell in board]))
