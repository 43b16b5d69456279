"""Point 5: what boards become in steps, and point 2 for what a step is."""

import itertools
import unittest

from fateboards import steps as steps_file
from fateboards.errors import BadBoard, BadNumber, BadRule, TooMany
from fateboards.floors import BitFloor, CellFloor
from fateboards.steps import step, steps
from tests.helpers import (
    BRAIN, FAR, LIFE, NO_BOARDS, NO_RULES, REST, ROW, SHIP, STAYING, ErrorTest, many_numbers, wrong_numbers,
)
from tests.naive import naive_step, naive_steps

AROUND = tuple((x, y) for x in (-1, 0, 1) for y in (-1, 0, 1) if (x, y) != (0, 0))


def square(wide, high, more=0):
    cells = [(x, y, 1) for x in range(wide) for y in range(high)]
    return tuple(cells + [(wide, y, 1) for y in range(more)])


class InterfaceTest(unittest.TestCase):

    def test_functions_are_defined_in_this_file(self):
        for name in ("step", "steps"):
            self.assertEqual(getattr(steps_file, name).__module__, "fateboards.steps")

    def test_example(self):
        self.assertEqual(steps(LIFE, ROW, 1), ((1, -1, 1), (1, 0, 1), (1, 1, 1)))
        self.assertIs(steps(LIFE, ROW, 2) == ROW, True)


class StepTest(unittest.TestCase):

    def test_births_and_stays_of_each_number(self):
        for count in range(9):
            for number in range(9):
                board = tuple(sorted((x, y, 1) for x, y in AROUND[:count]))
                born = step(((number,), (), 2) if number > 0 else ((), (), 2), board)
                self.assertEqual((0, 0, 1) in born, count == number and number > 0, (count, number))
                stays = step(((), (number,), 2), tuple(sorted(board + ((0, 0, 1),))))
                self.assertEqual((0, 0, 1) in stays, count == number, (count, number))

    def test_only_living_neighbours_count(self):
        for state in (2, 3, 4, 5):
            board = ((-1, 0, 1), (0, -1, state), (1, 0, 1))
            self.assertIn((0, 0, 1), step(((2,), (), 6), board))
            self.assertNotIn((0, 0, 1), step(((3,), (), 6), board))
            self.assertEqual(step(((), (0,), 6), ((0, 0, 1), (1, 0, state)))[0], (0, 0, 1))

    def test_dying_states_become_one_more(self):
        for states in (2, 3, 4, 5, 6):
            for state in (2, 3, 4, 5):
                later = ((0, 0, state + 1),) if state + 1 < states else ()
                self.assertEqual(step(((), (0,), states), ((0, 0, state),)), later)

    def test_living_cells_that_do_not_stay(self):
        for states in (2, 3, 4, 5, 6):
            self.assertEqual(step(((), (), states), ((0, 0, 1),)), ((0, 0, 2),) if states > 2 else ())

    def test_nothing_is_born_in_a_dying_cell(self):
        for states in (2, 3, 4, 5, 6):
            for state in (2, 3, 4, 5):
                board = ((-1, 0, 1), (0, 0, state), (1, 0, 1))
                there = [cell for cell in step(((2,), (), states), board) if cell[:2] == (0, 0)]
                self.assertEqual(there, [(0, 0, state + 1)] if state + 1 < states else [])

    def test_empty_board(self):
        for rule in (LIFE, BRAIN, ((1, 2, 3, 4, 5, 6, 7, 8), (0,), 6)):
            self.assertEqual([step(rule, ()), steps(rule, (), 0), steps(rule, (), 2000)], [(), (), ()])

    def test_many_rules_and_boards(self):
        numbers = many_numbers(5)
        for _ in range(150):
            births = tuple(count for count in range(1, 9) if next(numbers) % 3 == 0)
            stays = tuple(count for count in range(9) if next(numbers) % 3 == 0)
            rule = (births, stays, 2 + next(numbers) % 5)
            side = 2 + next(numbers) % 9
            places = {(next(numbers) % side, next(numbers) % side) for _ in range(next(numbers) % 30)}
            board = tuple(sorted((x, y, 1 + next(numbers) % 5) for x, y in places))
            many = next(numbers) % 14
            self.assertEqual(step(rule, board), naive_step(rule, board))
            if len(naive_steps(rule, board, many)) < 1000:
                self.assertEqual(steps(rule, board, many), naive_steps(rule, board, many))

    def test_both_kinds_of_floors(self):
        numbers = many_numbers(9)
        for rule in (LIFE, BRAIN, ((1, 3), (0, 4, 8), 6), ((2, 8), (), 4)):
            places = {(next(numbers) % 9, next(numbers) % 9) for _ in range(40)}
            board = tuple(sorted((x, y, 1 + next(numbers) % 5) for x, y in places))
            floors = (BitFloor(rule, board), CellFloor(rule, board))
            for _ in range(12):
                board = naive_step(rule, board)
                for floor in floors:
                    floor.advance()
                    self.assertEqual(floor.board(), board)
                    self.assertEqual(floor.size(), len(board))

    def test_parts_far_from_one_another(self):
        far = 10 ** 50
        board = ROW + tuple((x + far, y - far, 1) for x, y, _ in SHIP)
        later = steps(LIFE, board, 40)
        self.assertEqual(later, ROW + tuple((x + far + 10, y - far + 10, 1) for x, y, _ in SHIP))


class StepsTest(unittest.TestCase):

    def test_numbers_of_steps(self):
        for many in range(30):
            self.assertEqual(steps(LIFE, SHIP, many), naive_steps(LIFE, SHIP, many))
        self.assertEqual(steps(LIFE, SHIP, 2000), tuple((x + 500, y + 500, 1) for x, y, _ in SHIP))
        self.assertEqual(steps(LIFE, ROW, 1999), step(LIFE, ROW))

    def test_no_step_leaves_any_board_as_it_is(self):
        for board in ((), ROW, ((0, 0, 5), (7, 7, 4)), square(60, 50, 1), ((FAR, FAR, 1),)):
            self.assertEqual(steps(LIFE, board, 0), board)

    def test_a_board_that_grows_long(self):
        board = ((0, 1, 1), (1, 0, 1), (1, 1, 1), (1, 2, 1), (2, 0, 1))
        self.assertEqual(len(steps(LIFE, board, 1103)), 116)
        self.assertEqual(steps(LIFE, steps(LIFE, board, 300), 300), steps(LIFE, board, 600))


class LimitsTest(ErrorTest):

    def test_3000_cells_can_be_stepped(self):
        self.assertEqual(step(STAYING, square(60, 50)), square(60, 50))
        self.assertEqual(steps(STAYING, square(60, 50), 30), square(60, 50))
        scattered = tuple((x * 10 ** 9, 0, 1) for x in range(3000))
        self.assertEqual(step(STAYING, scattered), scattered)

    def test_3001_cells_cannot(self):
        self.assert_error(TooMany, {"most": 3000}, step, STAYING, square(60, 50, 1))
        self.assert_error(TooMany, {"most": 3000}, steps, STAYING, square(60, 50, 1), 1)
        self.assert_error(TooMany, {"most": 3000}, steps, ((), (), 2), square(60, 50, 1), 1)
        scattered = tuple((x * 10 ** 9, 0, 1) for x in range(3001))
        self.assert_error(TooMany, {"most": 3000}, step, STAYING, scattered)

    def test_cells_of_all_states_count(self):
        board = tuple((x, y, 1 + (x + y) % 5) for x, y, _ in square(60, 50, 1))
        self.assert_error(TooMany, {"most": 3000}, step, LIFE, board)

    def test_only_boards_ahead_of_a_step_count(self):
        grown = step(((1, 2, 3), (0, 1, 2, 3, 4, 5, 6, 7, 8), 2), square(60, 50))
        self.assertGreater(len(grown), 3000)
        rule = ((1,), (0, 1, 2, 3, 4, 5, 6, 7, 8), 2)
        many, board = 0, ((0, 0, 1),)
        while len(board) <= 3000:
            many, board = many + 1, naive_step(rule, board)
        self.assertEqual(steps(rule, ((0, 0, 1),), many), board)
        self.assert_error(TooMany, {"most": 3000}, steps, rule, ((0, 0, 1),), many + 1)

    def test_cells_at_the_last_places(self):
        for x, y in itertools.product((-FAR, FAR - 1), repeat=2):
            rest = tuple((x + right, y + down, 1) for right, down, _ in REST)
            self.assertEqual([step(LIFE, rest), steps(LIFE, rest, 2000)], [rest, rest])

    def test_cells_beyond_the_last_places(self):
        right = tuple((FAR, y, 1) for y in (4, 5, 6))
        down = tuple((x, FAR, 1) for x in (-1, 0, 1))
        left = tuple((-FAR, y, 1) for y in (4, 5, 6))
        up = tuple((x, -FAR, 1) for x in (-1, 0, 1))
        for board in (right, down, left, up):
            self.assert_error(BadBoard, {"index": None}, step, LIFE, board)
            self.assert_error(BadBoard, {"index": None}, steps, LIFE, board, 2)
            self.assert_error(BadBoard, {"index": None}, step, LIFE, tuple(sorted(board + ((7, 7, 1),))))

    def test_cells_that_get_beyond_the_last_places_later(self):
        for move in (5, 30):
            ship = tuple((x + FAR - 2 - move, y, 1) for x, y, _ in SHIP)
            self.assertEqual(steps(LIFE, ship, 4 * move)[-1][0], FAR)
            self.assert_error(BadBoard, {"index": None}, steps, LIFE, ship, 4 * move + 4)

    def test_a_board_that_would_be_stepped_back_is_not(self):
        self.assert_error(BadBoard, {"index": None}, steps, LIFE, tuple((FAR, y, 1) for y in (4, 5, 6)), 2000)

    def test_too_many_cells_come_ahead_of_cells_too_far(self):
        board = tuple((FAR - 60 + x, y, 1) for x, y, _ in square(61, 50))
        self.assert_error(TooMany, {"most": 3000}, step, LIFE, board)


class WrongArgumentsTest(ErrorTest):

    def test_wrong_arguments(self):
        rules = [(BadRule, {}, value) for value in NO_RULES]
        boards = [(BadBoard, {"index": index}, value) for value, index in NO_BOARDS]
        numbers = [(BadNumber, {}, value) for value in wrong_numbers(0, 2000)]
        self.assert_arguments(step, (LIFE, ROW), (rules, boards))
        self.assert_arguments(steps, (LIFE, ROW, 3), (rules, boards, numbers))

    def test_wrong_numbers_come_ahead_of_limits(self):
        self.assert_error(BadNumber, {}, steps, LIFE, square(60, 50, 1), 2001)
        self.assert_error(BadNumber, {}, steps, LIFE, ((FAR, 0, 1), (FAR, 1, 1), (FAR, 2, 1)), True)


if __name__ == "__main__":
    unittest.main()
