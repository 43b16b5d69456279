"""What the tests share: how an error is looked for, and values of wrong kinds."""

import copy
import unittest

from fateboards.errors import BoardError

FAR = 10 ** 60

NO_INTEGERS = (None, True, False, "", "1", (), (1,), [], [1], {}, {1: 1})
NO_TUPLES = (None, True, False, 0, 1, -7, "", "births", [], [[0, 0, 1]], [(0, 0, 1)], {}, {0: 1})
NO_TEXTS = (None, True, False, 0, 3, (), ("births",), [], ["births"], {}, {"births": 3})

# Values that are no places, and what they would be like: pairs in length alone, or in kind alone.
NO_PLACES = NO_TUPLES + (
    (),
    (0,),
    (0, 0, 0),
    (0, 0, 1, 1),
    [0, 0],
    "00",
    ((0, 0),),
    ((0, 0), (0, 0)),
    (FAR + 1, 0),
    (0, FAR + 1),
    (-FAR - 1, 0),
    (0, -FAR - 1),
) + tuple((value, 0) for value in NO_INTEGERS) + tuple((0, value) for value in NO_INTEGERS)

NO_CELLS = NO_TUPLES + (
    (),
    (0,),
    (0, 0),
    (0, 0, 1, 1),
    ((0, 0), 1),
    ((0, 0, 1),),
    [0, 0, 1],
    "001",
    (0, 0, 0),
    (0, 0, 6),
    (0, 0, -1),
    (FAR + 1, 0, 1),
    (0, FAR + 1, 1),
    (-FAR - 1, 0, 1),
    (0, -FAR - 1, 1),
) + tuple(
    cell for value in NO_INTEGERS for cell in ((value, 0, 1), (0, value, 1), (0, 0, value))
)


class ErrorTest(unittest.TestCase):
    """A test that looks for errors."""

    def assert_error(self, error, fields, call, *arguments):
        """The call raises just this error with these fields, and leaves its arguments as they were."""
        before = copy.deepcopy(arguments)
        with self.subTest(call=call.__name__, arguments=arguments):
            with self.assertRaises(BoardError) as caught:
                call(*arguments)
            self.assertIs(type(caught.exception), error)
            for name, value in fields.items():
                told = getattr(caught.exception, name)
                self.assertEqual((type(told), told), (type(value), value))
            self.assertEqual(repr(arguments), repr(before))
