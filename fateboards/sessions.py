"""Sessions: a board under a rule that is edited, looked at and asked for its fate."""

from fateboards.boards import check_board, check_move, joined
from fateboards.cells import has_states, moved
from fateboards.checks import FAR, check_number
from fateboards.errors import BadBoard, NoFate, NothingToUndo
from fateboards.finders import find_fate, find_thrower
from fateboards.moments import Fate, Moment, Start
from fateboards.papers import box_of_flocks, cell_of_flocks, living_of_flocks
from fateboards.rules import check_rule
from fateboards.runs import is_inland


class Session:
    """A session: the moment that is now, those that undo goes back to, and those that redo goes to, the next ones last.

    A moment never changes once it is there, so that each of them can be taken up again as it was.
    """

    def __init__(self, rule):
        check_rule(rule)
        self.rule = rule
        self.now = Moment(Start(rule, 0, ()), 0, None)
        self.before = []
        self.undone = []

    def generation(self):
        """The generation that is looked at."""
        return self.now.looked_at

    def board(self):
        """The board at the generation that is looked at."""
        return self.now.board()

    def cell(self, place):
        """The state of a cell of this board."""
        check_move(place)
        return cell_of_flocks(self.now.flocks(), place)

    def living(self):
        """How many cells of this board are living."""
        return living_of_flocks(self.now.flocks())

    def box(self):
        """The least x and y and the greatest x and y of this board's cells, None without a cell."""
        return box_of_flocks(self.now.flocks())

    def put(self, place, state):
        """Puts a state into a cell."""
        check_move(place)
        check_number(state, 0, self.rule[2] - 1)
        cells = [cell for cell in self._ground() if cell[:2] != place]
        if state > 0:
            cells.append(place + (state,))
        self._edit(tuple(sorted(cells)))

    def place(self, board, move):
        """Lays a board, moved, beside what is there."""
        check_board(board)
        if not has_states(board, self.rule[2]):
            raise BadBoard(None)
        check_move(move)
        laid = moved(board, move)
        _check_inland(laid)
        self._edit(joined(self._ground(), laid))

    def _ground(self):
        """The board that is looked at, to be edited."""
        board = self.board()
        _check_inland(board)
        return board

    def _edit(self, board):
        """Makes a board the one at a new start, the generation that is looked at."""
        generation = self.generation()
        self._go_on(Moment(Start(self.rule, generation, board), generation, None))

    def _go_on(self, moment):
        """Makes a moment the one that is now, so that it can be undone."""
        self.before.append(self.now)
        self.undone = []
        self.now = moment

    def know(self, generations, most):
        """Looks for the fate of the board at the start, and returns its paper, which is known from then on."""
        paper = self.search(generations, most)
        self.learn(paper)
        return paper

    def search(self, generations, most):
        """The paper of the fate of the board at the start, which is not yet known by that."""
        board = self.now.start.laid
        paper = find_fate(self.rule, board, generations, most)
        if paper is not None:
            return paper
        thrower = find_thrower(self.rule, board, most, most)
        if thrower is None:
            raise NoFate("no fate is found")
        return (0, (), (thrower,))

    def learn(self, paper):
        """Makes a paper of the fate of the board at the start known."""
        self._go_on(self.now.knowing(Fate(self.rule, paper)))

    def go(self, generation):
        """Looks at a generation."""
        check_number(generation, 0, FAR)
        self._go_on(self.now.at(generation))

    def step(self, many):
        """Looks at a generation so many steps on."""
        check_number(many, 0, FAR)
        self.go(self.generation() + many)

    def undo(self):
        """Goes back to how all was before what was done last."""
        if not self.before:
            raise NothingToUndo("nothing has been done")
        self.undone.append(self.now)
        self.now = self.before.pop()

    def redo(self):
        """Goes to how all was before the last undo."""
        if not self.undone:
            raise NothingToUndo("nothing has been undone")
        self.before.append(self.now)
        self.now = self.undone.pop()


def _check_inland(board):
    """Raises BadBoard if a cell of a board is beyond the last places."""
    if board and not is_inland(board, 0):
        raise BadBoard(None)
