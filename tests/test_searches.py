"""Point 13: what rests and comes round in small boxes, and censuses."""

import itertools
import unittest

from fateboards import searches
from fateboards.boards import box, shifted, turned
from fateboards.errors import BadNumber, BadPiece, BadRule, TooMany
from fateboards.pieces import form_of, round_of
from fateboards.searches import census, pieces_in_box, stills_in_box
from tests.helpers import (
    BRAIN, FAR, GROWING, LIFE, NO_RULES, NO_TUPLES, REST, ROW, SHIP, STAYING, WARS, ErrorTest, board_of, wrong_numbers,
)
from tests.naive import naive_step, naive_steps
from tests.samples import NO_PIECES, PHOTON, PULSAR, RESTING, SHIPPING, SNAKE, TURNING, moved_piece, turned_piece

ALL = (1, 2, 3, 4, 5, 6, 7, 8)
# Here and there births of 1 and of 2, more than two states, and nothing left behind a step.
RULES = (
    LIFE, BRAIN, WARS, STAYING, GROWING, ((1,), (), 2), ((1, 2), (0, 1), 3), ((2,), (0,), 2), ((), (), 2), ((), (), 6),
    ((), (1, 2, 3), 2), (ALL, (0,) + ALL, 2), ((3, 6), (2, 3), 2), ((2,), (0, 1, 2), 6),
)
BAR = ((0, 0, 1), (0, 1, 1), (0, 2, 1))
DIAMOND = ((0, 1, 1), (1, 0, 1), (1, 2, 1), (2, 1, 1))


def boards_tried(wide, high):
    """All boards of living cells alone with just this box, ascending."""
    cells = [(x, y, 1) for x in range(wide) for y in range(high)]
    boards = [board for many in range(1, len(cells) + 1) for board in itertools.combinations(cells, many)]
    return sorted(board for board in boards if box(board) == (0, 0, wide - 1, high - 1))


def pieces_tried(rule, wide, high, most):
    """What pieces_in_box is to return, with the rounds looked for cell by cell."""
    found = set()
    for board in boards_tried(wide, high):
        later = board
        for period in range(1, most + 1):
            later = naive_step(rule, later)
            if len(later) == len(board):
                move = (later[0][0] - board[0][0], later[0][1] - board[0][1])
                if shifted(board, move) == later:
                    found.add(form_tried(rule, board, period, move))
                    break
    return tuple(sorted(found))


def form_tried(rule, board, period, move):
    """The form of a board, with its period and the form's move by it."""
    ways = []
    for generation in range(period):
        for turn in range(8):
            way = turned(naive_steps(rule, board, generation), turn)
            left, top = box(way)[:2]
            ways.append((shifted(way, (-left, -top)), period, turned_piece((board, period, move), turn)[2]))
    return min(ways)


class InterfaceTest(unittest.TestCase):

    def test_functions_are_defined_in_this_file(self):
        for name in ("stills_in_box", "pieces_in_box", "census"):
            self.assertEqual(getattr(searches, name).__module__, "fateboards.searches")

    def test_example(self):
        self.assertEqual(stills_in_box(LIFE, 2, 2), (((0, 0, 1), (0, 1, 1), (1, 0, 1), (1, 1, 1)),))
        self.assertEqual(pieces_in_box(LIFE, 3, 1, 4), ((((0, 0, 1), (0, 1, 1), (0, 2, 1)), 2, (0, 0)),))


class StillsInBoxTest(ErrorTest):

    def test_small_boxes(self):
        for rule in RULES:
            for wide, high in ((1, 1), (1, 2), (2, 1), (1, 5), (5, 1), (2, 2), (3, 2), (2, 3), (3, 3), (2, 4), (9, 1)):
                told = tuple(board for board in boards_tried(wide, high) if naive_step(rule, board) == board)
                self.assertEqual(stills_in_box(rule, wide, high), told, (rule, wide, high))

    def test_boxes_of_12_cells(self):
        for rule, wide, high in (
            (LIFE, 4, 3), (LIFE, 3, 4), (LIFE, 6, 2), (((2,), (0, 1, 2), 6), 2, 6), (GROWING, 12, 1), (LIFE, 1, 12),
        ):
            told = tuple(board for board in boards_tried(wide, high) if naive_step(rule, board) == board)
            self.assertEqual(stills_in_box(rule, wide, high), told)

    def test_snakes(self):
        self.assertIn(SNAKE[0], stills_in_box(LIFE, 4, 2))
        self.assertEqual(stills_in_box(LIFE, 3, 3)[0], tuple(sorted(board_of("aa.", "a.a", ".a."))))

    def test_all_that_stays(self):
        self.assertEqual(stills_in_box(STAYING, 1, 1), (((0, 0, 1),),))
        self.assertEqual(len(stills_in_box(STAYING, 12, 1)), 2 ** 10)
        self.assertEqual(len(stills_in_box(STAYING, 1, 12)), 2 ** 10)
        self.assertEqual(stills_in_box(STAYING, 4, 3), tuple(boards_tried(4, 3)))

    def test_rules_under_which_nothing_rests(self):
        for rule in (((), (), 2), ((), (), 6), ((1,), (), 2), GROWING, (ALL, (0,) + ALL, 2)):
            for wide, high in ((1, 1), (3, 4), (12, 1)):
                self.assertEqual(stills_in_box(rule, wide, high), ())

    def test_sides_of_12_and_13(self):
        self.assertEqual(stills_in_box(LIFE, 12, 1), ())
        self.assertEqual(stills_in_box(LIFE, 1, 12), ())
        for wide, high in ((13, 1), (1, 13), (0, 1), (1, 0), (13, 0), (0, 13)):
            self.assert_error(BadNumber, {}, stills_in_box, LIFE, wide, high)

    def test_more_than_12_cells(self):
        for wide, high in ((7, 2), (2, 7), (5, 3), (3, 5), (4, 4), (12, 2), (2, 12), (12, 12)):
            self.assert_error(TooMany, {"most": 12}, stills_in_box, LIFE, wide, high)

    def test_wrong_arguments(self):
        sides = [(BadNumber, {}, value) for value in wrong_numbers(1, 12)]
        rules = [(BadRule, {}, value) for value in NO_RULES]
        self.assert_arguments(stills_in_box, (LIFE, 3, 3), (rules, sides, sides))
        self.assert_arguments(stills_in_box, (LIFE, 12, 12), (rules, sides, sides))


class PiecesInBoxTest(ErrorTest):

    def test_small_boxes(self):
        for rule in RULES:
            for wide, high, most in ((1, 1, 3), (1, 2, 12), (2, 1, 4), (4, 1, 4), (2, 2, 5), (3, 2, 4), (2, 3, 1)):
                told = pieces_in_box(rule, wide, high, most)
                self.assertEqual(told, pieces_tried(rule, wide, high, most), (rule, wide, high, most))

    def test_ships(self):
        told = pieces_in_box(LIFE, 3, 3, 4)
        self.assertEqual(told, pieces_tried(LIFE, 3, 3, 4))
        form = form_of(LIFE, SHIPPING)
        self.assertIn((form,) + round_of(LIFE, form, 4), told)
        self.assertIn((DIAMOND, 1, (0, 0)), told)
        self.assertEqual(told, tuple(sorted(told)))
        travelling = [piece for piece in told if piece[2] != (0, 0)]
        self.assertEqual(len(travelling), 1)
        self.assertEqual(shifted(form, travelling[0][2]), naive_steps(LIFE, form, 4))

    def test_boxes_of_12_cells(self):
        for wide, high in ((4, 3), (3, 4)):
            told = pieces_in_box(LIFE, wide, high, 12)
            self.assertEqual(told, pieces_tried(LIFE, wide, high, 2))
            self.assertEqual(told, tuple(sorted(set(told))))
            for form, period, move in told:
                self.assertEqual(form_of(LIFE, (form, period, move)), form)
                self.assertEqual(round_of(LIFE, form, 12), (period, move))
        self.assertEqual(pieces_in_box(LIFE, 4, 3, 12), pieces_in_box(LIFE, 3, 4, 12))

    def test_a_form_may_have_another_box(self):
        self.assertEqual(pieces_in_box(LIFE, 3, 1, 12), ((BAR, 2, (0, 0)),))
        self.assertEqual(pieces_in_box(LIFE, 1, 3, 12), ((BAR, 2, (0, 0)),))
        self.assertEqual(pieces_in_box(LIFE, 4, 2, 1), ((form_of(LIFE, SNAKE), 1, (0, 0)),))
        self.assertEqual(pieces_in_box(LIFE, 4, 2, 1), pieces_in_box(LIFE, 2, 4, 1))

    def test_periods(self):
        self.assertEqual(pieces_in_box(LIFE, 3, 1, 1), ())
        self.assertEqual(len(pieces_in_box(LIFE, 3, 1, 2)), 1)
        self.assertEqual(len(pieces_in_box(LIFE, 3, 3, 3)) + 1, len(pieces_in_box(LIFE, 3, 3, 4)))
        self.assertEqual(len(pieces_in_box(LIFE, 3, 3, 12)), len(pieces_in_box(LIFE, 3, 3, 4)))
        for most in (1, 12):
            self.assertEqual(pieces_in_box(STAYING, 1, 1, most), ((((0, 0, 1),), 1, (0, 0)),))
        self.assert_error(BadNumber, {}, pieces_in_box, LIFE, 3, 1, 0)
        self.assert_error(BadNumber, {}, pieces_in_box, LIFE, 3, 1, 13)

    def test_periods_of_12(self):
        rule = ((2,), (0, 1, 2), 6)
        for wide, high in ((2, 2), (3, 2), (4, 1)):
            self.assertEqual(pieces_in_box(rule, wide, high, 12), pieces_tried(rule, wide, high, 12))
        row = ((2,), (), 2)
        self.assertEqual(pieces_in_box(row, 4, 2, 12), pieces_tried(row, 4, 2, 12))

    def test_rules_under_which_nothing_comes_round(self):
        for rule in (((), (), 2), ((), (), 6), GROWING, (ALL, (0,) + ALL, 2)):
            for wide, high in ((1, 1), (3, 4), (12, 1)):
                self.assertEqual(pieces_in_box(rule, wide, high, 12), ())

    def test_more_than_12_cells(self):
        for wide, high in ((7, 2), (5, 3), (4, 4), (12, 2), (12, 12)):
            self.assert_error(TooMany, {"most": 12}, pieces_in_box, LIFE, wide, high, 4)
            # Errors about several arguments come behind those about single ones.
            self.assert_error(BadNumber, {}, pieces_in_box, LIFE, wide, high, 13)

    def test_wrong_arguments(self):
        rules = [(BadRule, {}, value) for value in NO_RULES]
        numbers = [(BadNumber, {}, value) for value in wrong_numbers(1, 12)]
        self.assert_arguments(pieces_in_box, (LIFE, 3, 1, 4), (rules, numbers, numbers, numbers))
        self.assert_arguments(pieces_in_box, (LIFE, 12, 12, 4), (rules, numbers, numbers, numbers))


class CensusTest(ErrorTest):

    def test_no_pieces(self):
        self.assertEqual(census(LIFE, ()), ())
        self.assertEqual(census(BRAIN, ()), ())

    def test_pieces(self):
        pieces = (RESTING, SHIPPING, TURNING, (PULSAR, 3, (0, 0)), SNAKE)
        self.assertEqual(census(LIFE, pieces), tuple(sorted((form_of(LIFE, piece), 1) for piece in pieces)))
        self.assertEqual(census(LIFE, pieces[:1]), ((REST, 1),))
        self.assertEqual(census(BRAIN, (PHOTON, PHOTON)), ((form_of(BRAIN, PHOTON), 2),))

    def test_one_piece_in_other_ways_and_generations(self):
        ships = tuple(
            moved_piece(turned_piece((naive_steps(LIFE, SHIP, generation), 4, (1, 1)), turn), (FAR - 99, -turn))
            for generation in range(4) for turn in range(8)
        )
        self.assertEqual(census(LIFE, ships), ((form_of(LIFE, SHIPPING), 32),))
        snakes = tuple(turned_piece(SNAKE, turn) for turn in range(8))
        rows = ((ROW, 2, (0, 0)), (BAR, 2, (0, 0)), (ROW, 240, (0, 0)), moved_piece(TURNING, (5, -7)))
        self.assertEqual(
            census(LIFE, ships[:3] + snakes + rows + (RESTING,)),
            tuple(sorted(((form_of(LIFE, SHIPPING), 3), (form_of(LIFE, SNAKE), 8), (BAR, 4), (REST, 1)))),
        )

    def test_pieces_may_lie_on_one_another(self):
        self.assertEqual(census(LIFE, (RESTING,) * 70), ((REST, 70),))

    def test_the_order_of_pieces_does_not_matter(self):
        pieces = (RESTING, TURNING, SHIPPING, TURNING)
        self.assertEqual(census(LIFE, pieces), census(LIFE, pieces[::-1]))

    def test_wrong_arguments(self):
        rules = [(BadRule, {}, value) for value in NO_RULES]
        wrong = [(BadPiece, {}, value) for value in NO_TUPLES]
        wrong += [(BadPiece, {}, (value,)) for value in NO_PIECES]
        wrong += [(BadPiece, {}, [RESTING]), (BadPiece, {}, RESTING), (BadPiece, {}, (RESTING, None))]
        self.assert_arguments(census, (LIFE, (RESTING,)), (rules, wrong))
        self.assert_error(BadPiece, {}, census, BRAIN, (SHIPPING,))

    def test_limits_of_steps(self):
        growing = (((0, 0, 1),), 100, (0, 0))
        self.assert_error(TooMany, {"most": 3000}, census, GROWING, (growing,))
        self.assert_error(BadPiece, {}, census, GROWING, (None, growing))


if __name__ == "__main__":
    unittest.main()
