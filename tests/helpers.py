"""What the tests share: how an error is looked for, values of wrong kinds, rules and boards."""

import copy
import unittest

from fateboards.errors import BoardError

FAR = 10 ** 60

NO_INTEGERS = (None, True, False, "", "1", (), (1,), [], [1], {}, {1: 1})
NO_TUPLES = (None, True, False, 0, 1, -7, "", "births", [], [[0, 0, 1]], [(0, 0, 1)], {}, {0: 1})
NO_TEXTS = (None, True, False, 0, 3, (), ("births",), [], ["births"], {}, {"births": 3})

# Values that are no places, and what they would be like: pairs in length alone, or in kind alone.
NO_PLACES = NO_TUPLES + (
    (),
    (0,),
    (0, 0, 0),
    (0, 0, 1, 1),
    [0, 0],
    "00",
    ((0, 0),),
    ((0, 0), (0, 0)),
    (FAR + 1, 0),
    (0, FAR + 1),
    (-FAR - 1, 0),
    (0, -FAR - 1),
) + tuple((value, 0) for value in NO_INTEGERS) + tuple((0, value) for value in NO_INTEGERS)

NO_CELLS = NO_TUPLES + (
    (),
    (0,),
    (0, 0),
    (0, 0, 1, 1),
    ((0, 0), 1),
    ((0, 0, 1),),
    [0, 0, 1],
    "001",
    (0, 0, 0),
    (0, 0, 6),
    (0, 0, -1),
    (FAR + 1, 0, 1),
    (0, FAR + 1, 1),
    (-FAR - 1, 0, 1),
    (0, -FAR - 1, 1),
) + tuple(
    cell for value in NO_INTEGERS for cell in ((value, 0, 1), (0, value, 1), (0, 0, value))
)


NO_RULES = NO_TUPLES + (
    (),
    ((3,), (2, 3)),
    ((3,), (2, 3), 2, 2),
    [(3,), (2, 3), 2],
    ([3], (2, 3), 2),
    ((3,), [2, 3], 2),
    ((0, 3), (2, 3), 2),
    ((9,), (2, 3), 2),
    ((3, 3), (2, 3), 2),
    ((3,), (3, 2), 2),
    ((3,), (-1,), 2),
    ((3,), (9,), 2),
    ((True,), (2, 3), 2),
    ((3,), (False, 2), 2),
    ((3,), (2, 3), 1),
    ((3,), (2, 3), 7),
    ((3,), (2, 3), True),
    ((3,), (2, 3), None),
    ((3,), (2, 3), "2"),
)

# Values that are no boards, and the index that is told of them.
NO_BOARDS = tuple((value, None) for value in NO_TUPLES) + tuple(((cell,), 0) for cell in NO_CELLS) + (
    (((0, 0, 1), (0, 0, 1)), 1),
    (((0, 1, 1), (0, 0, 1)), 1),
    (((1, 0, 1), (0, 5, 1)), 1),
    (((0, 0, 1), (1, 0, 1), (2, 0, 0)), 2),
    (((0, 0, 1), [1, 0, 1], None), 1),
)

LIFE = ((3,), (2, 3), 2)
BRAIN = ((2,), (), 3)
WARS = ((2,), (3, 4, 5), 4)
# Under these, boards grow by a cell to all sides at each step, and stay as they are.
GROWING = ((1,), (0, 1, 2, 3, 4, 5, 6, 7, 8), 2)
STAYING = ((), (0, 1, 2, 3, 4, 5, 6, 7, 8), 2)
REST = ((0, 0, 1), (0, 1, 1), (1, 0, 1), (1, 1, 1))
ROW = ((0, 0, 1), (1, 0, 1), (2, 0, 1))
SHIP = ((0, 2, 1), (1, 0, 1), (1, 2, 1), (2, 1, 1), (2, 2, 1))


def wrong_numbers(low, high):
    """Values that are no integers from low to high."""
    return NO_INTEGERS + (low - 1, high + 1, -10 ** 70, 10 ** 70)


def board_of(*rows):
    """The board of some rows of signs: "." is empty, "a" to "e" are the states from 1 to 5."""
    cells = [(x, y, ".abcde".index(sign)) for y, row in enumerate(rows) for x, sign in enumerate(row)]
    return tuple(sorted(cell for cell in cells if cell[2] > 0))


def many_numbers(seed):
    """Numbers from 0 to 32767 without end, the same for the same seed."""
    number = seed
    while True:
        number = (1103515245 * number + 12345) % 2 ** 31
        yield number // 65536


class ErrorTest(unittest.TestCase):
    """A test that looks for errors."""

    def assert_arguments(self, call, right, wrong):
        """Each wrong argument raises its error, and of several the leftmost one.

        wrong has, for each argument in turn but perhaps the last ones, some (error, fields, value).
        """
        for at, cases in enumerate(wrong):
            for error, fields, value in cases:
                self.assert_error(error, fields, call, *right[:at], value, *right[at + 1:])
                behind = tuple(later[0][2] for later in wrong[at + 1:]) + right[len(wrong):]
                self.assert_error(error, fields, call, *right[:at], value, *behind)

    def assert_error(self, error, fields, call, *arguments):
        """The call raises just this error with these fields, and leaves its arguments as they were."""
        before = copy.deepcopy(arguments)
        with self.subTest(call=call.__name__, arguments=arguments):
            with self.assertRaises(BoardError) as caught:
                call(*arguments)
            self.assertIs(type(caught.exception), error)
            for name, value in fields.items():
                told = getattr(caught.exception, name)
                self.assertEqual((type(told), told), (type(value), value))
            self.assertEqual(repr(arguments), repr(before))
