"""Pieces and throwers that several tests look at, and how they are moved and turned."""

from fateboards.boards import shifted, turned
from fateboards.texts import read_board
from tests.helpers import (
    NO_BOARDS, NO_INTEGERS, NO_PLACES, NO_TUPLES, REST, ROW, SHIP, board_of,
)

RESTING = (REST, 1, (0, 0))
TURNING = (ROW, 2, (0, 0))
SHIPPING = (SHIP, 4, (1, 1))
PULSAR = board_of(
    "..aaa...aaa..", ".............", "a....a.a....a", "a....a.a....a", "a....a.a....a", "..aaa...aaa..",
    ".............",
    "..aaa...aaa..", "a....a.a....a", "a....a.a....a", "a....a.a....a", ".............", "..aaa...aaa..",
)
PHOTON = (((-1, 0, 2), (-1, 1, 2), (0, 0, 1), (0, 1, 1)), 1, (1, 0))
TRAIL_RULE = ((2,), (0,), 4)
# 75 that rest, of 4 cells each.
CROWD = tuple((5 * place + x, y, 1) for place in range(75) for x, y, _ in REST)

# Values that are no pieces under LIFE.
NO_PIECES = NO_TUPLES + (
    (),
    (REST, 1),
    (REST, 1, (0, 0), ()),
    [REST, 1, (0, 0)],
    (REST, 2, (1, 0)),
    (REST, 0, (0, 0)),
    (REST, 241, (0, 0)),
    (ROW, 1, (0, 0)),
    (ROW, 3, (0, 0)),
    (SHIP, 4, (1, 0)),
    (SHIP, 4, (-1, -1)),
    (SHIP, 8, (1, 1)),
    (SHIP, 3, (1, 1)),
    ((), 1, (0, 0)),
    (CROWD + ((400, 0, 1),), 1, (0, 0)),
    (((0, 0, 2), (0, 1, 2)), 1, (0, 0)),
    (tuple(sorted(REST + ((9, 9, 2),))), 1, (0, 0)),
    (((0, 0, 1),), 1, (0, 0)),
    (REST[::-1], 1, (0, 0)),
    (list(REST), 1, (0, 0)),
) + tuple((REST, value, (0, 0)) for value in NO_INTEGERS) + tuple((REST, 1, value) for value in NO_PLACES) + tuple(
    (value, 1, (0, 0)) for value, _ in NO_BOARDS
)


def placed(text, place):
    return shifted(read_board(text), place)


# Under WARS: turns in 20 generations.
SLOWLY_TURNING = (read_board("ba/ca.cba/.2a2.cb/ba.3a.a/2.2a.2a/c2.3a.c/.bc.a.b/2.ab2a"), 20, (0, 0))
# Under LIFE: rests, and is another one in a mirror.
SNAKE = (board_of("aa.a", "a.aa"), 1, (0, 0))
# Under LIFE: rests, and throws a ship down to the right.
GUN = (
    read_board(
        "24.a/22.a.a/12.2a6.2a12.2a/11.a3.a4.2a12.2a/2a8.a5.a3.2a/2a8.a3.a.2a4.a.a/10.a5.a7.a/11.a3.a/12.2a"
    ),
    30,
    (0, 0),
    ((placed("a/.2a/2a", (23, 9)), 4, (1, 1)),),
)
# Under WARS: rests, and throws upwards.
WARS_GUN = (read_board(".b2a/c.a.b/.3ac/3a/.ca"), 5, (0, 0), ((placed("2a/2b/2c", (2, -5)), 1, (0, -1)),))
# Under BRAIN: goes to the right, and throws up and down.
RAKE = (
    read_board("2a7.ba/2b4.ba.ba/2.2ab2.ba/2.b2.ba/4.ba"),
    6,
    (6, 0),
    ((placed("2a/2b/2.a/2.b", (0, -6)), 1, (0, -1)), (placed("2.b/2.a/2b/2a", (3, 5)), 1, (0, 1))),
)
# Under BRAIN: goes up, and throws five pieces, one of them with two phases.
GREAT_RAKE = (
    read_board(
        "3.2a4.2a/3.2ba2.a2b/5.b2.b2.a/4.a6.b/4.ba4.a/3.a.b4.b/3.b7.a/4.ba4.aba/3.ab5.b.ba/3.a2.ba3.a.b/2.b3.ba4.a/"
        ".a3.b5a.b/b7.2baba/7.a/4.ba2.b/3.2ba2.ab/4.a4.a2b/10.2a/6.2b/6.2a"
    ),
    24,
    (0, -24),
    (
        (placed("2.ab/ab/ab/2.ab/4.ab", (-21, 7)), 1, (-1, 0)),
        (placed("2.ab/ab/ab/2.ab/4.ab", (-13, -1)), 1, (-1, 0)),
        (placed("2.ab/ab/ab/2.ab/4.ab", (-5, -9)), 1, (-1, 0)),
        (placed(".b/2.b/b.a/ab/.ab/2.ab/3.a2b/4.2a/2b/2a", (6, 34)), 2, (0, 2)),
        (placed(".ba/.ba/ba", (11, -2)), 1, (1, 0)),
    ),
)
# Under TRAIL_RULE: goes to the right, throws two pieces down, and leaves one that rests behind.
TRAIL = (
    read_board("5.cba/.b4.cba/3b.ab2.cba/.2b2.2ba.cba/.a.2b2.cba.cba/3.2a.cba2.cba/5.cba"),
    8,
    (8, 0),
    (
        (placed("c/b2c/a2b/.2a", (2, 10)), 1, (0, 1)),
        (placed("a", (4, 4)), 1, (0, 0)),
        (placed("2c/2b/2a", (7, 7)), 1, (0, 1)),
    ),
)
# Under TRAIL_RULE: goes up, and throws down what has four phases.
SLOW = (
    read_board("5.2a/5.2b/2a2.a2ca/2b.ab2.ba/2c.aba.cb/8.c"),
    4,
    (0, -4),
    ((placed("cab/ac.b/.aba", (2, 4)), 4, (0, 2)),),
)
# Two that turn, with periods whose least common multiple is 7375.
LONG_RULE = ((4, 5, 6, 8), (2, 3, 4, 5, 8), 5)
LONG = (read_board("3.2a/2.4a/.a4.a/2acd2.a/a.2a.a/5a"), 59, (0, 0))
LONGER = (read_board("2.4a/.2a2.2a/2a.4a/a3.2a/.a2.a/2.2a"), 125, (0, 0))


def turned_move(move, turn):
    return turned((move + (1,),), turn)[0][:2]


def moved_piece(piece, move):
    return (shifted(piece[0], move),) + piece[1:]


def turned_piece(piece, turn):
    return (turned(piece[0], turn), piece[1], turned_move(piece[2], turn))


def moved_thrower(thrower, move):
    thrown = tuple(moved_piece(piece, move) for piece in thrower[3])
    return (shifted(thrower[0], move),) + thrower[1:3] + (thrown,)


def turned_thrower(thrower, turn):
    return turned_piece(thrower[:3], turn) + (tuple(turned_piece(piece, turn) for piece in thrower[3]),)


def throwers_together(*throwers):
    """Throwers of one period and move as one thrower."""
    core = tuple(sorted(cell for thrower in throwers for cell in thrower[0]))
    return (core,) + throwers[0][1:3] + (tuple(piece for thrower in throwers for piece in thrower[3]),)


def slowed(piece, times):
    """A piece with a multiple of its period."""
    return (piece[0], times * piece[1], (times * piece[2][0], times * piece[2][1]))


def slowed_throws(thrower, times):
    """A thrower whose thrown pieces tell a multiple of their periods."""
    return thrower[:3] + (tuple(slowed(piece, times) for piece in thrower[3]),)
