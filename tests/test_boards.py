"""Points 3 and 4: boards, and what is told and made of them."""

import itertools
import unittest

from fateboards import boards
from fateboards.boards import are_near, box, joined, living, lots, normal, shifted, state_at, turned
from fateboards.errors import BadBoard, BadMove, BadNumber, Clash
from tests.helpers import FAR, NO_CELLS, NO_INTEGERS, NO_PLACES, NO_TUPLES, ErrorTest

EXAMPLE = ((0, 0, 1), (1, 0, 1), (5, 5, 1))
COLOURS = ((-3, 7, 5), (-3, 8, 1), (0, -2, 2), (4, 0, 1), (4, 1, 3), (4, 2, 4))
CORNERS = ((-FAR, -FAR, 1), (-FAR, FAR, 2), (FAR, -FAR, 3), (FAR, FAR, 5))

# Each function, the arguments of a call that is right, and which of them are boards.
CALLS = (
    (state_at, (EXAMPLE, (0, 0)), (0,)),
    (shifted, (EXAMPLE, (1, 2)), (0,)),
    (turned, (EXAMPLE, 3), (0,)),
    (joined, (EXAMPLE, COLOURS), (0, 1)),
    (box, (EXAMPLE,), (0,)),
    (living, (EXAMPLE,), (0,)),
    (normal, (EXAMPLE,), (0,)),
    (are_near, (EXAMPLE, COLOURS), (0, 1)),
    (lots, (EXAMPLE,), (0,)),
)


def replaced(arguments, at, value):
    return arguments[:at] + (value,) + arguments[at + 1:]


class InterfaceTest(unittest.TestCase):

    def test_functions_are_defined_in_this_file(self):
        for call, _, _ in CALLS:
            self.assertEqual(call.__module__, "fateboards.boards")
            self.assertIs(getattr(boards, call.__name__), call)

    def test_equal_arguments_have_equal_answers(self):
        for call, arguments, _ in CALLS:
            self.assertEqual(call(*arguments), call(*arguments))


class BadBoardTest(ErrorTest):
    """What a board is, by what each function says of wrong ones."""

    def assert_index(self, value, index):
        for call, arguments, places in CALLS:
            for at in places:
                self.assert_error(BadBoard, {"index": index}, call, *replaced(arguments, at, value))

    def test_values_that_are_no_tuples(self):
        for value in NO_TUPLES + (list(EXAMPLE),):
            self.assert_index(value, None)

    def test_items_that_are_no_cells(self):
        for cell in NO_CELLS:
            self.assert_index((cell,), 0)

    def test_the_first_wrong_item_is_told(self):
        self.assert_index(EXAMPLE + ((6, 0, 0),), 3)
        self.assert_index(EXAMPLE + ((6, 0, 6), (6, 0, 7)), 3)
        self.assert_index(EXAMPLE[:1] + ([1, 0, 1],) + EXAMPLE[2:], 1)
        self.assert_index(EXAMPLE[:2] + ((5, 5, True), None), 2)
        self.assert_index((None,) + EXAMPLE, 0)
        self.assert_index(((0, 0, 1), (0, FAR + 1, 1), (0, 0, 1)), 1)

    def test_cells_that_do_not_ascend(self):
        self.assert_index(((0, 0, 1), (0, 0, 1)), 1)
        self.assert_index(((0, 0, 1), (0, 0, 2)), 1)
        self.assert_index(((0, 0, 2), (0, 0, 1)), 1)
        self.assert_index(((0, 1, 1), (0, 0, 1)), 1)
        self.assert_index(((0, 1, 1), (0, 0, 2)), 1)
        self.assert_index(((1, 0, 1), (0, 1, 1)), 1)
        self.assert_index(((0, 0, 1), (1, 0, 1), (0, 1, 1)), 2)
        self.assert_index(((0, 0, 1), (2, 0, 1), (1, 0, 1), (0, 0, 0)), 2)
        self.assert_index(((-1, 0, 1), (-2, 0, 1)), 1)
        self.assert_index(((0, -1, 1), (0, -2, 1)), 1)

    def test_boards_at_the_edges_are_boards(self):
        for call, arguments, places in CALLS:
            if places == (0,):
                call(*replaced(arguments, 0, CORNERS))
        self.assertEqual([state_at(CORNERS, cell[:2]) for cell in CORNERS], [1, 2, 3, 5])
        self.assertEqual([living(((0, 0, state),)) for state in (1, 2, 3, 4, 5)], [1, 0, 0, 0, 0])
        self.assertEqual(joined(CORNERS, ()), CORNERS)


class BadMoveTest(ErrorTest):

    def test_values_that_are_no_places(self):
        for value in NO_PLACES:
            self.assert_error(BadMove, {}, state_at, EXAMPLE, value)
            self.assert_error(BadMove, {}, state_at, (), value)

    def test_values_that_are_no_moves(self):
        for value in NO_PLACES:
            self.assert_error(BadMove, {}, shifted, EXAMPLE, value)
            self.assert_error(BadMove, {}, shifted, (), value)

    def test_the_board_comes_first(self):
        for call in (state_at, shifted):
            self.assert_error(BadBoard, {"index": None}, call, None, None)
            self.assert_error(BadBoard, {"index": 0}, call, (None,), (0, True))
            self.assert_error(BadBoard, {"index": 1}, call, EXAMPLE[1::-1], [0, 0])


class StateAtTest(unittest.TestCase):

    def test_cells_that_are_there(self):
        for board in (EXAMPLE, COLOURS, CORNERS):
            for x, y, state in board:
                self.assertEqual(state_at(board, (x, y)), state)

    def test_empty_cells(self):
        for place in ((0, 1), (-1, 0), (5, 0), (0, 5), (FAR, FAR), (-FAR, FAR), (FAR, -FAR), (-FAR, -FAR)):
            self.assertEqual(state_at(EXAMPLE, place), 0)
        self.assertEqual(state_at(((2, 7, 1),), (7, 2)), 0)

    def test_empty_board(self):
        self.assertEqual(state_at((), (0, 0)), 0)


class ShiftedTest(unittest.TestCase):

    def test_moves(self):
        self.assertEqual(shifted(EXAMPLE, (3, -4)), ((3, -4, 1), (4, -4, 1), (8, 1, 1)))
        self.assertEqual(shifted(COLOURS, (0, 0)), COLOURS)
        self.assertEqual(shifted(((0, 0, 4),), (-1, 2)), ((-1, 2, 4),))

    def test_moves_at_the_edges(self):
        for x, y in itertools.product((-FAR, 0, FAR), repeat=2):
            self.assertEqual(shifted(((0, 0, 3), (1, -1, 2)), (x, y)), ((x, y, 3), (x + 1, y - 1, 2)))
        self.assertEqual(shifted(((-FAR, FAR, 1),), (FAR, -FAR)), ((0, 0, 1),))

    def test_no_error_is_named_for_what_leaves_the_limits(self):
        self.assertEqual(shifted(((FAR, 0, 1),), (1, 0)), ((FAR + 1, 0, 1),))

    def test_empty_board(self):
        self.assertEqual(shifted((), (5, 5)), ())


class TurnedTest(ErrorTest):

    def test_a_cell_in_all_ways(self):
        ways = ((2, 1), (-1, 2), (-2, -1), (1, -2), (-2, 1), (-1, -2), (2, -1), (1, 2))
        for turn, (x, y) in enumerate(ways):
            with self.subTest(turn=turn):
                self.assertEqual(turned(((2, 1, 3),), turn), ((x, y, 3),))

    def test_example(self):
        self.assertEqual(turned(((1, 0, 1),), 1), ((0, 1, 1),))

    def test_turned_boards_ascend(self):
        board = ((0, 0, 1), (0, 2, 2), (1, 0, 3))
        self.assertEqual(turned(board, 0), board)
        self.assertEqual(turned(board, 1), ((-2, 0, 2), (0, 0, 1), (0, 1, 3)))
        self.assertEqual(turned(board, 2), ((-1, 0, 3), (0, -2, 2), (0, 0, 1)))
        self.assertEqual(turned(board, 3), ((0, -1, 3), (0, 0, 1), (2, 0, 2)))
        self.assertEqual(turned(board, 4), ((-1, 0, 3), (0, 0, 1), (0, 2, 2)))
        self.assertEqual(turned(board, 5), ((-2, 0, 2), (0, -1, 3), (0, 0, 1)))
        self.assertEqual(turned(board, 6), ((0, -2, 2), (0, 0, 1), (1, 0, 3)))
        self.assertEqual(turned(board, 7), ((0, 0, 1), (0, 1, 3), (2, 0, 2)))

    def test_edges_and_empty_board(self):
        for turn in range(8):
            self.assertEqual(turned((), turn), ())
            self.assertEqual([cell[:2] for cell in turned(CORNERS, turn)], [cell[:2] for cell in CORNERS])

    def test_wrong_turns(self):
        for turn in (-1, 8, 9, 10 ** 60, -10 ** 60) + NO_INTEGERS:
            self.assert_error(BadNumber, {}, turned, EXAMPLE, turn)
            self.assert_error(BadNumber, {}, turned, (), turn)

    def test_the_board_comes_first(self):
        self.assert_error(BadBoard, {"index": None}, turned, [], 8)
        self.assert_error(BadBoard, {"index": 0}, turned, ((0, 0, 6),), None)


class JoinedTest(ErrorTest):

    def test_boards_together(self):
        self.assertEqual(
            joined(((0, 0, 1), (2, 0, 2)), ((-1, 5, 3), (1, 1, 1), (2, 1, 4))),
            ((-1, 5, 3), (0, 0, 1), (1, 1, 1), (2, 0, 2), (2, 1, 4)),
        )
        self.assertEqual(joined(EXAMPLE[1:], EXAMPLE[:1]), EXAMPLE)
        self.assertEqual(joined(((0, 1, 1),), ((0, 0, 2),)), ((0, 0, 2), (0, 1, 1)))

    def test_empty_boards(self):
        self.assertEqual([joined((), ()), joined(EXAMPLE, ()), joined((), EXAMPLE)], [(), EXAMPLE, EXAMPLE])

    def test_a_cell_in_both(self):
        self.assert_error(Clash, {}, joined, EXAMPLE, EXAMPLE)
        self.assert_error(Clash, {}, joined, EXAMPLE, ((-4, 0, 1), (5, 5, 1), (6, 0, 1)))
        self.assert_error(Clash, {}, joined, ((0, 0, 1),), ((0, 0, 2),))
        self.assert_error(Clash, {}, joined, ((0, 0, 2),), ((0, 0, 1),))

    def test_the_first_wrong_board_comes_first(self):
        self.assert_error(BadBoard, {"index": 0}, joined, (None,), None)
        self.assert_error(BadBoard, {"index": None}, joined, None, (None,))

    def test_wrong_boards_come_ahead_of_a_clash(self):
        self.assert_error(BadBoard, {"index": 3}, joined, EXAMPLE, EXAMPLE + (None,))
        self.assert_error(BadBoard, {"index": 3}, joined, EXAMPLE + (None,), EXAMPLE)


class BoxTest(unittest.TestCase):

    def test_boxes(self):
        self.assertEqual(box(EXAMPLE), (0, 0, 5, 5))
        self.assertEqual(box(COLOURS), (-3, -2, 4, 8))
        self.assertEqual(box(((3, -4, 2),)), (3, -4, 3, -4))
        self.assertEqual(box(((0, 9, 1), (1, -9, 1), (2, 0, 5))), (0, -9, 2, 9))
        self.assertEqual(box(CORNERS), (-FAR, -FAR, FAR, FAR))

    def test_empty_board(self):
        self.assertIsNone(box(()))


class LivingTest(unittest.TestCase):

    def test_only_the_state_1_is_living(self):
        self.assertEqual([living(EXAMPLE), living(COLOURS), living(((0, 0, 2), (0, 1, 5)))], [3, 2, 0])

    def test_empty_board(self):
        self.assertEqual(living(()), 0)


class NormalTest(unittest.TestCase):

    def test_normal_boards(self):
        self.assertEqual(normal(((3, 4, 2),)), (((0, 0, 2),), (3, 4)))
        self.assertEqual(normal(EXAMPLE), (EXAMPLE, (0, 0)))
        self.assertEqual(
            normal(COLOURS),
            (((0, 9, 5), (0, 10, 1), (3, 0, 2), (7, 2, 1), (7, 3, 3), (7, 4, 4)), (-3, -2)),
        )

    def test_edges(self):
        self.assertEqual(normal(((FAR, FAR, 1),)), (((0, 0, 1),), (FAR, FAR)))
        self.assertEqual(normal(((-FAR, -FAR, 1),)), (((0, 0, 1),), (-FAR, -FAR)))

    def test_empty_board(self):
        self.assertEqual(normal(()), ((), (0, 0)))


class AreNearTest(ErrorTest):

    def test_single_cells(self):
        for right, down in itertools.product(range(-4, 5), repeat=2):
            with self.subTest(right=right, down=down):
                told = are_near(((7, -3, 1),), ((7 + right, -3 + down, 2),))
                self.assertIs(told, abs(right) <= 2 and abs(down) <= 2)

    def test_some_cell_near_another(self):
        row = tuple((x, 0, 1) for x in range(0, 30, 3))
        self.assertIs(are_near(row, ((27, 2, 1), (40, 40, 1))), True)
        self.assertIs(are_near(row, ((-9, 0, 1), (13, 3, 1), (30, 0, 1))), False)
        self.assertIs(are_near(((40, 40, 1), (41, 40, 1)), row), False)
        self.assertIs(are_near(((-9, 0, 1), (29, -2, 5)), row), True)

    def test_boards_within_the_box_of_the_other_may_be_far(self):
        frame = tuple((x, y, 1) for x in range(7) for y in range(7) if x in (0, 6) or y in (0, 6))
        self.assertIs(are_near(frame, ((3, 3, 1),)), False)
        self.assertIs(are_near(frame, ((3, 4, 1),)), True)

    def test_a_board_and_itself(self):
        self.assertIs(are_near(EXAMPLE, EXAMPLE), True)

    def test_empty_boards(self):
        self.assertEqual([are_near((), ()), are_near(EXAMPLE, ()), are_near((), EXAMPLE)], [False, False, False])

    def test_edges(self):
        self.assertIs(are_near(CORNERS, ((FAR - 2, FAR - 2, 1),)), True)
        self.assertIs(are_near(CORNERS, ((FAR - 2, FAR - 3, 1),)), False)

    def test_the_first_wrong_board_comes_first(self):
        self.assert_error(BadBoard, {"index": 0}, are_near, (None,), None)
        self.assert_error(BadBoard, {"index": None}, are_near, None, (None,))
        self.assert_error(BadBoard, {"index": 0}, are_near, (), (None,))


def lots_by_pairs(board):
    """The lots of a board, slowly: all pairs of near cells are brought together again and again."""
    found = [[cell] for cell in board]
    changed = True
    while changed:
        changed = False
        for one, two in itertools.combinations(found, 2):
            if any(abs(a[0] - b[0]) <= 2 and abs(a[1] - b[1]) <= 2 for a in one for b in two):
                found = [lot for lot in found if lot is not one and lot is not two] + [one + two]
                changed = True
                break
    return tuple(sorted(tuple(sorted(lot)) for lot in found))


class LotsTest(unittest.TestCase):

    def test_example(self):
        self.assertEqual(lots(EXAMPLE), (((0, 0, 1), (1, 0, 1)), ((5, 5, 1),)))

    def test_two_cells(self):
        for right, down in itertools.product(range(-4, 5), repeat=2):
            if (right, down) != (0, 0):
                with self.subTest(right=right, down=down):
                    board = tuple(sorted([(1, 2, 1), (1 + right, 2 + down, 4)]))
                    near = abs(right) <= 2 and abs(down) <= 2
                    self.assertEqual(lots(board), (board,) if near else (board[:1], board[1:]))

    def test_cells_hang_together_by_others(self):
        line = tuple((x, 0, 1 + x % 5) for x in range(0, 4000, 2))
        self.assertEqual(lots(line), (line,))
        self.assertEqual(lots(line[:70] + line[71:]), (line[:70], line[71:]))

    def test_lots_that_stand_in_one_another(self):
        frame = tuple((x, y, 1) for x in range(7) for y in range(7) if x in (0, 6) or y in (0, 6))
        board = tuple(sorted(frame + ((3, 3, 2),)))
        self.assertEqual(lots(board), (frame, ((3, 3, 2),)))

    def test_lots_ascend_by_their_least_cells(self):
        board = ((0, 9, 1), (1, 0, 2), (2, 9, 3), (3, 0, 4), (4, 9, 5), (5, 4, 1))
        self.assertEqual(
            lots(board),
            (((0, 9, 1), (2, 9, 3), (4, 9, 5)), ((1, 0, 2), (3, 0, 4)), ((5, 4, 1),)),
        )

    def test_many_boards(self):
        number = 1
        for _ in range(200):
            cells = {}
            for _ in range(12):
                number = (1103515245 * number + 12345) % 2 ** 31
                cells[(number // 65536 % 13 - 6, number // 4194304 % 11)] = 1 + number // 65536 % 5
            board = tuple(sorted((x, y, state) for (x, y), state in cells.items()))
            self.assertEqual(lots(board), lots_by_pairs(board))

    def test_edges(self):
        self.assertEqual(lots(CORNERS), tuple((cell,) for cell in CORNERS))

    def test_empty_board(self):
        self.assertEqual(lots(()), ())


if __name__ == "__main__":
    unittest.main()
