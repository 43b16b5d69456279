"""The floor on which a board is stepped, kept so that a step is quick: as bits, or cell by cell."""

from fateboards.cells import corners, states_by_place
from fateboards.checks import FAR
from fateboards.errors import BadBoard

# So many steps can be made on a floor before it must be laid anew around its board.
SPARE = 12
# Bits are quicker than single cells up to about so many of them for each cell.
BITS_FOR_A_CELL = 1000
BITS_AT_LEAST = 5000


def floor_of(rule, board):
    """The floor that suits a board."""
    if board and _suits_bits(board):
        return BitFloor(rule, board)
    return CellFloor(rule, board)


def _suits_bits(board):
    left, top, right, bottom = _with_margin(corners(board))
    # A floor of bits does not look whether a cell gets beyond the last place.
    if left < -FAR or top < -FAR or right > FAR or bottom > FAR:
        return False
    return (right - left + 1) * (bottom - top + 1) <= BITS_AT_LEAST + BITS_FOR_A_CELL * len(board)


def _with_margin(box):
    left, top, right, bottom = box
    return (left - SPARE, top - SPARE, right + SPARE, bottom + SPARE)


class BitFloor:
    """A part of the floor as integers, one for each state; the bits of the cells stand column by column.

    Around the board a margin is left empty, so that in SPARE steps no cell
    leaves the part or gets to the other end of its column.
    """

    def __init__(self, rule, board):
        births, stays, states = rule
        self.births = births
        # A living cell is one of the nine cells that are counted around it.
        self.stays = tuple([count + 1 for count in stays])
        self.states = states
        self.left, self.top, right, bottom = _with_margin(corners(board))
        self.high = bottom - self.top + 1
        self.whole = (1 << (right - self.left + 1) * self.high) - 1
        self.planes = [0, 0, 0, 0, 0]
        for x, y, state in board:
            self.planes[state - 1] |= 1 << ((x - self.left) * self.high + y - self.top)

    def advance(self):
        """Makes one step."""
        alive = self.planes[0]
        taken = alive
        for plane in self.planes[1:]:
            taken |= plane
        sides = [(self.whole ^ plane, plane) for plane in _counts(alive, self.high)]
        staying = alive & _with_counts(self.stays, sides)
        born = _with_counts(self.births, sides) & (self.whole ^ taken)
        # Each dying state is one more now; what would be a state that the rule has not is empty.
        later = [staying | born, alive ^ staying] + self.planes[1:]
        self.planes = later[:self.states - 1]

    def size(self):
        """How many cells are not empty."""
        return sum([f"{plane:b}".count("1") for plane in self.planes])

    def board(self):
        """The board that is there now."""
        cells = []
        for index, plane in enumerate(self.planes):
            for bit in _bits(plane):
                x, y = divmod(bit, self.high)
                cells.append((x + self.left, y + self.top, index + 1))
        return tuple(sorted(cells))


def _bits(plane):
    """The places of the ones of an integer."""
    text = f"{plane:b}"
    last = len(text) - 1
    found = []
    at = text.find("1")
    while at >= 0:
        found.append(last - at)
        at = text.find("1", at + 1)
    return found


def _counts(plane, high):
    """Four planes: the figures, in twos, of how many cells of a plane there are in the nine around each cell."""
    ones, twos = _sum_of_three(plane << 1, plane, plane >> 1)
    first, from_ones = _sum_of_three(ones << high, ones, ones >> high)
    from_twos, fours = _sum_of_three(twos << high, twos, twos >> high)
    more_fours = from_ones & from_twos
    return (first, from_ones ^ from_twos, fours ^ more_fours, fours & more_fours)


def _sum_of_three(one, two, three):
    """The two planes of figures of a sum of three planes."""
    either = one ^ two
    return (either ^ three, (one & two) | (three & either))


def _with_counts(counts, sides):
    """The cells that have one of some counts; sides are, for each figure, the cells that have 0 and 1 there."""
    ones, twos, fours, eights = sides
    found = 0
    for count in counts:
        found |= ones[count & 1] & twos[count >> 1 & 1] & fours[count >> 2 & 1] & eights[count >> 3]
    return found


class CellFloor:
    """The whole floor, with the states of its cells by their places, for boards with much empty floor."""

    def __init__(self, rule, board):
        self.births, self.stays, self.states = rule
        self.cells = states_by_place(board)

    def advance(self):
        """Makes one step; BadBoard if a cell gets beyond the last place."""
        counts = self._living_around()
        later = {}
        for place in counts:
            if place not in self.cells and counts[place] in self.births:
                later[place] = 1
        for place, state in self.cells.items():
            if state == 1 and counts.get(place, 0) in self.stays:
                later[place] = 1
            elif state + 1 < self.states:
                later[place] = state + 1
        for x, y in later:
            if x < -FAR or x > FAR or y < -FAR or y > FAR:
                raise BadBoard(None)
        self.cells = later

    def _living_around(self):
        """How many living neighbours the places have that have some."""
        counts = {}
        for (x, y), state in self.cells.items():
            if state == 1:
                for place in _places_around(x, y):
                    counts[place] = counts.get(place, 0) + 1
        return counts

    def size(self):
        """How many cells are not empty."""
        return len(self.cells)

    def board(self):
        """The board that is there now."""
        return tuple(sorted([(x, y, state) for (x, y), state in self.cells.items()]))


def _places_around(x, y):
    return (
        (x - 1, y - 1), (x, y - 1), (x + 1, y - 1), (x - 1, y),
        (x + 1, y), (x - 1, y + 1), (x, y + 1), (x + 1, y + 1),
    )
