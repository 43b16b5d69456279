"""The texts of boards and papers."""

from fateboards.boards import check_board
from fateboards.cells import corners, made_normal, moved
from fateboards.checks import check_text
from fateboards.errors import BadPaper, InvalidText, TooMany
from fateboards.forms import has_paper_form

# A sign for each state, from 0 on.
STATES = ".abcde"
FIGURES = "0123456789"
MOST_WIDE = 9999
MOST_FIGURES = 61

# The words with which the lines of a paper begin, and those that may follow each.
FROM = "from"
PIECE = "piece"
THROWER = "thrower"
THROWS = "throws"
BEHIND = {
    "from": ("piece", "thrower"),
    "piece": ("piece", "thrower"),
    "thrower": ("throws",),
    "throws": ("throws",),
}


def write_board(board):
    """The text of a board made normal, and the place where its least x and y were."""
    check_board(board)
    shape, place = made_normal(board)
    if not shape:
        return ("", place)
    right, bottom = corners(shape)[2:]
    if right >= MOST_WIDE or bottom >= MOST_WIDE:
        raise TooMany(MOST_WIDE)
    rows = [[] for _ in range(bottom + 1)]
    for x, y, state in shape:
        rows[y].append((x, STATES[state]))
    return ("/".join([_write_row(row) for row in rows]), place)


def _write_row(row):
    """The text of a row, of which the x and the signs of the cells that are not empty are given, ascending."""
    runs = []
    end = 0
    for x, sign in row:
        if x > end:
            runs.append((STATES[0], x - end))
        many = 1
        if runs and runs[-1][0] == sign:
            many += runs.pop()[1]
        runs.append((sign, many))
        end = x + 1
    return "".join([sign if many == 1 else f"{many}{sign}" for sign, many in runs])


def read_board(text):
    """The board that a text tells."""
    check_text(text)
    reader = BoardReader()
    for index, sign in enumerate(text):
        if not reader.take(sign):
            raise InvalidText(index)
    if reader.many > 0:
        raise InvalidText(len(text))
    return tuple(sorted(reader.cells))


class BoardReader:
    """Takes the signs of a board's text one by one; many is the number that stands ahead, 0 without any."""

    def __init__(self):
        self.cells = []
        self.x = 0
        self.y = 0
        self.many = 0

    def take(self, sign):
        """Takes the next sign, and returns whether it can stand there."""
        if sign in FIGURES:
            self.many = 10 * self.many + int(sign)
            return 1 <= self.many <= MOST_WIDE
        if sign == "/":
            return self._take_row()
        return sign in STATES and self._take_cells(STATES.index(sign))

    def _take_row(self):
        if self.many > 0 or self.y + 1 == MOST_WIDE:
            return False
        self.x = 0
        self.y += 1
        return True

    def _take_cells(self, state):
        end = self.x + max(1, self.many)
        if end > MOST_WIDE:
            return False
        if state > 0:
            self.cells.extend([(x, self.y, state) for x in range(self.x, end)])
        self.x = end
        self.many = 0
        return True


def write_paper(paper):
    """The text of a paper."""
    if not has_paper_form(paper):
        raise BadPaper("not a paper")
    generation, pieces, throwers = paper
    lines = [f"{FROM} {generation}"]
    lines.extend([_write_part(PIECE, piece) for piece in pieces])
    for thrower in throwers:
        lines.append(_write_part(THROWER, thrower[:3]))
        lines.extend([_write_part(THROWS, piece) for piece in thrower[3]])
    return "\n".join(lines)


def _write_part(word, part):
    board, period, move = part
    text, place = write_board(board)
    return f"{word} {period} {move[0]} {move[1]} {place[0]} {place[1]} {text}"


def read_paper(text):
    """The paper whose text it is."""
    check_text(text)
    reader = PaperReader()
    place = 0
    for line in text.split("\n"):
        if not reader.take(line):
            raise InvalidText(place)
        place += len(line) + 1
    paper = reader.paper()
    if not has_paper_form(paper):
        raise InvalidText(0)
    return paper


class PaperReader:
    """Takes the lines of a paper's text one by one; awaited are the words with which the next one may begin."""

    def __init__(self):
        self.awaited = (FROM,)
        self.generation = 0
        self.pieces = []
        self.cores = []
        self.thrown = []

    def take(self, line):
        """Takes the next line, and returns whether it can stand there."""
        words = line.split(" ")
        if words[0] not in self.awaited:
            return False
        self.awaited = BEHIND[words[0]]
        if words[0] == FROM:
            return self._take_generation(words[1:])
        return self._take_part(words)

    def _take_generation(self, words):
        if len(words) != 1 or not is_number(words[0]):
            return False
        self.generation = int(words[0])
        return True

    def _take_part(self, words):
        part = _read_part(words[1:])
        if part is None:
            return False
        if words[0] == PIECE:
            self.pieces.append(part)
        elif words[0] == THROWER:
            self.cores.append(part)
        else:
            self.thrown.append(part)
        return True

    def paper(self):
        """The paper that was taken, if its values are such."""
        throwers = tuple([core + (tuple(self.thrown),) for core in self.cores])
        return (self.generation, tuple(self.pieces), throwers)


def is_number(word):
    """Whether a word is an integer of not too many figures, and none needless."""
    figures = word[1:] if word[:1] == "-" else word
    if not 1 <= len(figures) <= MOST_FIGURES or any([figure not in FIGURES for figure in figures]):
        return False
    return figures[0] != "0" or word == "0"


def _read_part(words):
    """The board, the period and the move that the words of a line tell, None if they cannot stand."""
    if len(words) != 6 or not all([is_number(word) for word in words[:5]]):
        return None
    shape = _read_normal(words[5])
    if not shape:
        return None
    period, right, down, left, top = [int(word) for word in words[:5]]
    return (moved(shape, (left, top)), period, (right, down))


def _read_normal(text):
    """The board whose text it is, which is normal; the empty board if it is no board's text."""
    try:
        board = read_board(text)
    except InvalidText:
        return ()
    return board if write_board(board) == (text, (0, 0)) else ()
