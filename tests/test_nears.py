"""Point 8: when, and whether, what moves on and on comes near."""

import itertools
import unittest

from fateboards import nears
from fateboards.errors import BadMove
from fateboards.nears import comes_near, first_near_of
from tests.helpers import FAR, NO_PLACES, ErrorTest, many_numbers


def first_tried(start, move, most):
    """The least k up to most, by trying all."""
    for k in range(most + 1):
        if abs(start[0] + k * move[0]) <= 2 and abs(start[1] + k * move[1]) <= 2:
            return k
    return None


def tried(start, one, two, most):
    """Whether some a and b up to most bring start near, by trying all."""
    for a in range(most + 1):
        if first_tried((start[0] + a * one[0], start[1] + a * one[1]), two, most) is not None:
            return True
    return False


class InterfaceTest(unittest.TestCase):

    def test_functions_are_defined_in_this_file(self):
        for name in ("first_near_of", "comes_near"):
            self.assertEqual(getattr(nears, name).__module__, "fateboards.nears")

    def test_example(self):
        self.assertEqual([first_near_of((10, 0), (-3, 0)), first_near_of((10, 0), (3, 0))], [3, None])
        self.assertEqual([comes_near((7, 1), (-5, 0), (3, 0)), comes_near((7, 9), (-5, 0), (3, 0))], [True, False])


class FirstNearOfTest(unittest.TestCase):

    def test_start_within_2(self):
        for start in itertools.product(range(-3, 4), repeat=2):
            near = max(abs(start[0]), abs(start[1])) <= 2
            for move in ((0, 0), (7, -7), (FAR, FAR), (-FAR, 0)):
                if near or move == (0, 0):
                    self.assertEqual(first_near_of(start, move), 0 if near else None, (start, move))

    def test_all_small_ones(self):
        for start in itertools.product(range(-12, 13, 3), range(-9, 10)):
            for move in itertools.product(range(-4, 5), (-3, -1, 0, 1, 2, 5)):
                self.assertEqual(first_near_of(start, move), first_tried(start, move, 30), (start, move))

    def test_moves_along_one_axis(self):
        self.assertEqual(first_near_of((0, 100), (0, -1)), 98)
        self.assertEqual(first_near_of((2, 100), (0, -7)), 14)
        self.assertEqual(first_near_of((2, 101), (0, -6)), 17)
        self.assertIsNone(first_near_of((3, 100), (0, -1)))
        self.assertIsNone(first_near_of((0, 100), (0, 1)))
        self.assertIsNone(first_near_of((-9, 0), (6, 0)))
        self.assertEqual(first_near_of((-8, 0), (6, 0)), 1)

    def test_a_move_that_jumps_over(self):
        self.assertIsNone(first_near_of((9, 0), (-6, 0)))
        self.assertIsNone(first_near_of((100, 100), (-97, -103)))
        self.assertIsNone(first_near_of((9, 40), (-3, -10)))
        self.assertEqual(first_near_of((9, 40), (-2, -10)), 4)

    def test_great_numbers(self):
        self.assertEqual(first_near_of((FAR, FAR), (-1, -1)), FAR - 2)
        self.assertEqual(first_near_of((FAR, -FAR), (-1, 1)), FAR - 2)
        self.assertIsNone(first_near_of((FAR, FAR - 5), (-1, -1)))
        self.assertEqual(first_near_of((FAR, FAR - 4), (-1, -1)), FAR - 2)
        self.assertEqual(first_near_of((FAR, FAR), (-FAR, -FAR)), 1)
        self.assertIsNone(first_near_of((FAR, 3), (-FAR, 0)))
        self.assertIsNone(first_near_of((-FAR, 0), (2 * 10 ** 59 + 1, 0)))
        self.assertEqual(first_near_of((-FAR, 0), (10 ** 59, 0)), 10)


class ComesNearTest(unittest.TestCase):

    def test_start_within_2(self):
        for start in ((0, 0), (2, -2), (-2, 1)):
            for one, two in itertools.product(((0, 0), (1, 0), (FAR, -FAR), (-5, 3)), repeat=2):
                self.assertIs(comes_near(start, one, two), True)

    def test_moves_of_0(self):
        self.assertIs(comes_near((3, 0), (0, 0), (0, 0)), False)
        for start, move in (((9, 9), (-4, -4)), ((9, 9), (-6, -6)), ((9, 0), (1, 0)), ((40, 9), (-13, -3))):
            near = first_near_of(start, move) is not None
            self.assertIs(comes_near(start, move, (0, 0)), near)
            self.assertIs(comes_near(start, (0, 0), move), near)

    def test_along_one_axis(self):
        for start in range(-60, 61):
            for one, two in itertools.product((-11, -10, -7, -1, 1, 6, 15), (-14, -6, -2, 5, 7, 20)):
                wanted = tried((start, 1), (one, 0), (two, 0), 70)
                self.assertIs(comes_near((start, 1), (one, 0), (two, 0)), wanted, (start, one, two))
                self.assertIs(comes_near((-2, start), (0, one), (0, two)), wanted, (start, one, two))
                self.assertIs(comes_near((3, start), (0, one), (0, two)), False)

    def test_along_one_line(self):
        numbers = many_numbers(3)
        for _ in range(400):
            unit = (next(numbers) % 9 - 4, next(numbers) % 9 - 4)
            one, two = next(numbers) % 25 - 12, next(numbers) % 25 - 12
            start = (next(numbers) % 121 - 60, next(numbers) % 121 - 60)
            moves = ((one * unit[0], one * unit[1]), (two * unit[0], two * unit[1]))
            self.assertIs(comes_near(start, *moves), tried(start, *moves, 150), (start, moves))

    def test_moves_in_two_directions(self):
        numbers = many_numbers(4)
        for _ in range(300):
            start, one, two = [(next(numbers) % many - many // 2, next(numbers) % many - many // 2)
                               for many in (61, 13, 13)]
            self.assertIs(comes_near(start, one, two), tried(start, one, two, 400), (start, one, two))

    def test_neither_move_alone_comes_near(self):
        self.assertIs(comes_near((100, 100), (-10, 0), (0, -10)), True)
        self.assertIs(comes_near((105, 105), (-10, 0), (0, -10)), False)
        self.assertIs(comes_near((-3, 3), (9, 0), (-4, 0)), False)
        self.assertIs(comes_near((-3, 2), (9, 0), (-4, 0)), True)

    def test_both_moves_away_or_one(self):
        self.assertIs(comes_near((5, 5), (1, 1), (2, 1)), False)
        self.assertIs(comes_near((5, 5), (1, 0), (0, -1)), False)
        self.assertIs(comes_near((5, 5), (3, 3), (-2, -2)), True)

    def test_what_no_sum_of_multiples_is(self):
        # 1006991 is the last number that is no sum of multiples of 1000 and 1009.
        self.assertIs(comes_near((-1006991 * 5, 2), (5000, 0), (5045, 0)), False)
        self.assertIs(comes_near((-1006992 * 5, 2), (5000, 0), (5045, 0)), True)
        self.assertIs(comes_near((-1006991 * 5, 2), (5045, 0), (5000, 0)), False)
        self.assertIs(comes_near((1006992 * 5 + 2, 2), (-5045, 0), (-5000, 0)), True)

    def test_great_numbers(self):
        self.assertIs(comes_near((FAR, FAR), (-1, 0), (0, -1)), True)
        self.assertIs(comes_near((FAR, FAR), (-1, 0), (0, 1)), False)
        self.assertIs(comes_near((FAR, FAR), (-FAR, 0), (0, -FAR)), True)
        self.assertIs(comes_near((FAR - 3, FAR), (-FAR, 0), (0, -FAR)), False)
        # Ones that meet only behind about 10 ** 59 of both moves.
        self.assertIs(comes_near((FAR, 0), (-7, 3), (-3, -3)), True)
        self.assertIs(comes_near((FAR - 5, 5), (-11, 0), (0, -11)), False)
        great = 10 ** 58
        self.assertIs(comes_near((-FAR, 0), (great + 1, 0), (-great, 0)), True)
        self.assertIs(comes_near((-FAR + 5 * 10 ** 30, 0), (10 ** 31, 0), (10 ** 32, 0)), False)
        self.assertIs(comes_near((-FAR, 7), (10 ** 31, 0), (10 ** 32, 0)), False)
        self.assertIs(comes_near((-FAR, -FAR), (3 * great, 3 * great), (7 * great, 7 * great)), True)
        self.assertIs(comes_near((-11 * great, -11 * great), (3 * great, 3 * great), (7 * great, 7 * great)), False)


class WrongMovesTest(ErrorTest):

    def test_wrong_moves(self):
        moves = [(BadMove, {}, value) for value in NO_PLACES]
        self.assert_arguments(first_near_of, ((9, 9), (1, 1)), (moves, moves))
        self.assert_arguments(comes_near, ((9, 9), (1, 1), (0, 1)), (moves, moves, moves))


if __name__ == "__main__":
    unittest.main()
