"""Point 4, as the finders use it: the first few lots of a board."""

import unittest

from fateboards.boards import lots
from fateboards.lotting import few_lots, lots_of
from tests.helpers import many_numbers


class FewLotsTest(unittest.TestCase):

    def test_as_all_lots(self):
        numbers = many_numbers(2)
        for _ in range(60):
            side = 6 + next(numbers) % 30
            places = {(next(numbers) % side, next(numbers) % side) for _ in range(40)}
            board = tuple(sorted((x - 9, y - 9, 1) for x, y in places))
            whole = lots(board)
            self.assertEqual(tuple(lots_of(board)), whole)
            for many in range(len(whole) + 2):
                self.assertEqual(tuple(few_lots(board, many, 40)), whole[:many + 1])

    def test_only_a_first_lot_that_is_too_large_is_cut(self):
        row = tuple((x, 0, 1) for x in range(100))
        far = tuple((x + 200, 0, 1) for x in range(100))
        self.assertEqual(few_lots(((-9, 0, 1),) + row + far, 6, 50), [((-9, 0, 1),), row, far])
        self.assertEqual(few_lots(row + far, 6, 100), [row, far])
        part = few_lots(row + far, 6, 50)
        self.assertEqual(len(part), 1)
        self.assertGreater(len(part[0]), 50)
        self.assertEqual(part[0][0], row[0])
        self.assertLessEqual(set(part[0]), set(row))

    def test_cells_at_the_ends_of_columns_are_not_near(self):
        for high in range(3, 9):
            board = ((0, 0, 1), (0, high, 1), (3, 0, 1), (3, high, 1))
            self.assertEqual(lots_of(board), [(cell,) for cell in board])
            board = ((0, 0, 1), (0, high, 1), (1, 0, 1), (1, high, 1))
            self.assertEqual(lots_of(board), [board[::2], board[1::2]])


if __name__ == "__main__":
    unittest.main()
