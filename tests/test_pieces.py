"""Points 6 and 7: pieces, and when they are near one another."""

import itertools
import unittest

from fateboards import pieces
from fateboards.boards import lots, shifted, turned
from fateboards.errors import BadBoard, BadNumber, BadPiece, BadRule, TooMany
from fateboards.pieces import first_near, form_of, kind_of, piece_at, round_of, shows_piece
from fateboards.steps import steps
from tests.helpers import (
    BRAIN, FAR, GROWING, LIFE, NO_BOARDS, NO_RULES, REST, ROW, SHIP, STAYING, WARS, ErrorTest, board_of, many_numbers,
    wrong_numbers,
)
from tests.naive import naive_near, naive_steps
from tests.samples import (
    CROWD, LONG, LONG_RULE, LONGER, NO_PIECES, PHOTON, PULSAR, RESTING, SHIPPING, SLOWLY_TURNING, SNAKE, TURNING,
    WARS_GUN, moved_piece, turned_piece,
)

LONG_ROW = tuple((x, 0, 1) for x in range(10))
CRAFT = board_of("a..a.", "....a", "a...a", ".aaaa")


def first_near_tried(rule, piece, other, most):
    """The first generation at which two pieces are near, by trying all up to the most."""
    one, two = piece[0], other[0]
    for generation in range(most + 1):
        if naive_near(one, two):
            return generation
        one, two = naive_steps(rule, one, 1), naive_steps(rule, two, 1)
    return None


def pieces_of_rule(rule, seed, many):
    """Some pieces of a rule: lots of what comes of boards at random that come round."""
    numbers = many_numbers(seed)
    found = {}
    for _ in range(many):
        places = {(next(numbers) % 7, next(numbers) % 7) for _ in range(14)}
        board = tuple(sorted((x, y, 1 + next(numbers) % 3 % (rule[2] - 1)) for x, y in places))
        for lot in lots(steps(rule, board, next(numbers) % 20)):
            told = round_of(rule, lot, 12)
            if told is not None:
                piece = (lot,) + told
                found[form_of(rule, piece)] = piece
    return [found[form] for form in sorted(found)]


class InterfaceTest(unittest.TestCase):

    def test_functions_are_defined_in_this_file(self):
        for name in ("shows_piece", "round_of", "piece_at", "first_near", "form_of", "kind_of"):
            self.assertEqual(getattr(pieces, name).__module__, "fateboards.pieces")

    def test_example(self):
        rest = ((15, 12, 1), (15, 13, 1), (16, 12, 1), (16, 13, 1))
        self.assertEqual(SHIP, board_of(".a", "..a", "aaa"))
        self.assertEqual(round_of(LIFE, SHIP, 20), (4, (1, 1)))
        self.assertEqual(kind_of(LIFE, SHIPPING), "travels")
        self.assertEqual(
            piece_at(LIFE, SHIPPING, 10 ** 30)[0],
            (250000000000000000000000000000, 250000000000000000000000000002, 1),
        )
        self.assertEqual(first_near(LIFE, SHIPPING, (rest, 1, (0, 0))), 43)
        self.assertEqual(form_of(LIFE, (rest, 1, (0, 0))), ((0, 0, 1), (0, 1, 1), (1, 0, 1), (1, 1, 1)))


class ShowsPieceTest(ErrorTest):

    def test_pieces(self):
        for rule, piece in (
            (LIFE, RESTING), (LIFE, TURNING), (LIFE, SHIPPING), (LIFE, (PULSAR, 3, (0, 0))),
            (BRAIN, PHOTON), (((), (0,), 2), (((7, -7, 1),), 1, (0, 0))),
        ):
            self.assertIs(shows_piece(rule, piece), True)

    def test_multiples_of_the_least_period(self):
        self.assertIs(shows_piece(LIFE, (REST, 240, (0, 0))), True)
        self.assertIs(shows_piece(LIFE, (SHIP, 240, (60, 60))), True)
        self.assertIs(shows_piece(LIFE, (SHIP, 236, (59, 59))), True)
        self.assertIs(shows_piece(LIFE, (SHIP, 239, (60, 60))), False)
        self.assertIs(shows_piece(LIFE, (SHIP, 240, (1, 1))), False)
        self.assertIs(shows_piece(BRAIN, (PHOTON[0], 240, (240, 0))), True)

    def test_values_that_are_no_pieces(self):
        for value in NO_PIECES:
            self.assertIs(shows_piece(LIFE, value), False, value)

    def test_1_to_300_cells(self):
        self.assertEqual(len(CROWD), 300)
        self.assertIs(shows_piece(LIFE, (CROWD, 1, (0, 0))), True)
        self.assertIs(shows_piece(STAYING, (CROWD, 7, (0, 0))), True)
        self.assertIs(shows_piece(STAYING, (CROWD + ((400, 0, 1),), 1, (0, 0))), False)
        self.assertIs(shows_piece(STAYING, (((-FAR, FAR, 1),), 1, (0, 0))), True)

    def test_states_of_the_rule_alone(self):
        for states in (2, 3, 4, 5, 6):
            rule = ((2,), (), states)
            there = tuple(sorted([(1 - state, y, state) for state in range(1, states) for y in (0, 1)]))
            told = round_of(rule, there, 1)
            self.assertEqual(told, (1, (1, 0)) if states > 2 else None)
            if told is not None:
                self.assertIs(shows_piece(rule, (there, 1, (1, 0))), True)
                self.assertIs(shows_piece(((2,), (), states - 1), (there, 1, (1, 0))), False)

    def test_moves_of_all_directions(self):
        found = {}
        for turn in range(8):
            for piece in (SHIPPING, (CRAFT,) + round_of(LIFE, CRAFT, 4)):
                piece = turned_piece(piece, turn)
                found[piece[2]] = True
                self.assertIs(shows_piece(LIFE, piece), True)
                self.assertIs(shows_piece(LIFE, piece[:2] + ((-piece[2][0], -piece[2][1]),)), False)
        self.assertEqual(sorted(found), sorted([
            (1, 1), (1, -1), (-1, 1), (-1, -1), (2, 0), (-2, 0), (0, 2), (0, -2),
        ]))

    def test_far_parts_are_one_piece(self):
        far = tuple((x - FAR, y + 10 ** 59, 1) for x, y, _ in REST)
        board = far + REST
        self.assertIs(shows_piece(LIFE, (board, 3, (0, 0))), True)
        ships = tuple((x - 10 ** 59, y, 1) for x, y, _ in SHIP) + SHIP
        self.assertIs(shows_piece(LIFE, (ships, 4, (1, 1))), True)

    def test_limits_of_steps(self):
        self.assert_error(TooMany, {"most": 3000}, shows_piece, GROWING, (((0, 0, 1),), 100, (0, 0)))
        self.assertIs(shows_piece(GROWING, (((0, 0, 1),), 20, (0, 0))), False)
        self.assertIs(shows_piece(GROWING, (((0, 0, 1), (3, 0, 2)), 100, (0, 0))), False)
        ship = shifted(SHIP, (FAR - 12, 0))
        self.assertIs(shows_piece(LIFE, (ship, 40, (10, 10))), True)
        self.assert_error(BadBoard, {"index": None}, shows_piece, LIFE, (ship, 44, (11, 11)))
        self.assert_error(BadBoard, {"index": None}, shows_piece, LIFE, (ship, 240, (60, 60)))

    def test_wrong_rules(self):
        for rule in NO_RULES:
            self.assert_error(BadRule, {}, shows_piece, rule, RESTING)
            self.assert_error(BadRule, {}, shows_piece, rule, None)


class RoundOfTest(ErrorTest):

    def test_least_periods(self):
        self.assertEqual(round_of(LIFE, REST, 240), (1, (0, 0)))
        self.assertEqual(round_of(LIFE, ROW, 240), (2, (0, 0)))
        self.assertEqual(round_of(LIFE, PULSAR, 240), (3, (0, 0)))
        self.assertEqual(round_of(LIFE, steps(LIFE, LONG_ROW, 100), 240), (15, (0, 0)))
        self.assertEqual(round_of(BRAIN, PHOTON[0], 240), (1, (1, 0)))
        self.assertEqual(round_of(LIFE, steps(LIFE, SHIP, 3), 240), (4, (1, 1)))

    def test_most(self):
        for board, period in ((REST, 1), (ROW, 2), (PULSAR, 3), (SHIP, 4)):
            for most in (1, 2, 3, 4, 5, 239, 240):
                self.assertEqual(round_of(LIFE, board, most) is not None, most >= period)

    def test_parts_together_come_round_together(self):
        pulsar = shifted(PULSAR, (20, 0))
        self.assertEqual(round_of(LIFE, ROW + pulsar, 240), (6, (0, 0)))
        self.assertIsNone(round_of(LIFE, ROW + pulsar, 5))
        self.assertIsNone(round_of(LIFE, shifted(SHIP, (-9, 0)) + pulsar, 240))
        parts = ROW + pulsar + shifted(steps(LIFE, LONG_ROW, 100), (80, 0))
        self.assertEqual(round_of(LIFE, parts, 240), (30, (0, 0)))

    def test_boards_that_never_come_round(self):
        for board in (
            ((0, 0, 1),), LONG_ROW, REST[:3], REST + ((9, 9, 1),), ((0, 0, 2), (5, 5, 5)), REST + ((9, 9, 2),),
        ):
            self.assertIsNone(round_of(LIFE, board, 240))

    def test_boards_of_any_size(self):
        crowd = CROWD + shifted(CROWD, (400, 0))
        self.assertEqual(round_of(LIFE, crowd, 240), (1, (0, 0)))
        self.assertEqual(round_of(LIFE, ((-FAR, 0, 1), (-FAR, 1, 1), (1 - FAR, 0, 1), (1 - FAR, 1, 1)), 1), (1, (0, 0)))

    def test_empty_board(self):
        for rule, most in itertools.product((LIFE, BRAIN, GROWING), (1, 240)):
            self.assertEqual(round_of(rule, (), most), (1, (0, 0)))

    def test_limits_of_steps(self):
        self.assert_error(TooMany, {"most": 3000}, round_of, GROWING, ((0, 0, 1),), 240)
        self.assertIsNone(round_of(GROWING, ((0, 0, 1),), 20))
        board = tuple((3 * x, 0, 1) for x in range(3001))
        self.assert_error(TooMany, {"most": 3000}, round_of, ((), (0,), 2), board, 1)
        self.assertEqual(round_of(((), (0,), 2), board[1:], 1), (1, (0, 0)))

    def test_cells_that_get_beyond_the_last_places(self):
        self.assertEqual(round_of(LIFE, shifted(SHIP, (FAR - 3, 0)), 240), (4, (1, 1)))
        self.assert_error(BadBoard, {"index": None}, round_of, LIFE, shifted(SHIP, (FAR - 2, 0)), 240)
        # Here one cell dies, and what is left comes round by itself, but not the board: it gets too far at last.
        ship = shifted(SHIP, (FAR - 30, 0)) + ((FAR - 20, 90, 1),)
        last = max(many for many in range(200) if max(x for x, _, _ in steps(LIFE, SHIP, many)) <= 30)
        self.assertIsNone(round_of(LIFE, ship, last))
        self.assert_error(BadBoard, {"index": None}, round_of, LIFE, ship, last + 1)

    def test_wrong_arguments(self):
        rules = [(BadRule, {}, value) for value in NO_RULES]
        boards = [(BadBoard, {"index": index}, value) for value, index in NO_BOARDS]
        numbers = [(BadNumber, {}, value) for value in wrong_numbers(1, 240)]
        self.assert_arguments(round_of, (LIFE, ROW, 3), (rules, boards, numbers))
        self.assert_arguments(round_of, (LIFE, (), 3), (rules, boards, numbers))


class PieceAtTest(ErrorTest):

    def test_early_generations(self):
        for rule, piece in ((LIFE, TURNING), (LIFE, SHIPPING), (BRAIN, PHOTON), (LIFE, (SHIP, 12, (3, 3)))):
            for generation in range(30):
                self.assertEqual(piece_at(rule, piece, generation), naive_steps(rule, piece[0], generation))

    def test_late_generations(self):
        for generation in range(10 ** 59, 10 ** 59 + 9):
            rounds = generation // 4
            early = piece_at(LIFE, SHIPPING, generation % 4)
            self.assertEqual(piece_at(LIFE, SHIPPING, generation), shifted(early, (rounds, rounds)))
            self.assertEqual(piece_at(LIFE, RESTING, generation), REST)
        self.assertEqual(piece_at(LIFE, TURNING, 10 ** 60), ROW)
        self.assertEqual(piece_at(LIFE, TURNING, 10 ** 60 - 1), steps(LIFE, ROW, 1))
        self.assertEqual(piece_at(BRAIN, turned_piece(PHOTON, 4), FAR)[0], (-FAR, 0, 1))

    def test_no_error_is_named_for_what_goes_beyond_the_last_places(self):
        self.assertEqual(piece_at(BRAIN, moved_piece(PHOTON, (5, 0)), FAR)[-1], (FAR + 5, 1, 1))

    def test_wrong_arguments(self):
        self.assert_arguments(piece_at, (LIFE, SHIPPING, 3), (
            [(BadRule, {}, value) for value in NO_RULES],
            [(BadPiece, {}, value) for value in NO_PIECES],
            [(BadNumber, {}, value) for value in wrong_numbers(0, FAR)],
        ))

    def test_limits_of_steps_are_the_pieces(self):
        growing = (((0, 0, 1),), 100, (0, 0))
        self.assert_error(TooMany, {"most": 3000}, piece_at, GROWING, growing, -1)
        ship = (shifted(SHIP, (FAR - 2, 0)), 4, (1, 1))
        self.assert_error(BadBoard, {"index": None}, piece_at, LIFE, ship, -1)


class FirstNearTest(ErrorTest):

    def assert_first_near(self, rule, piece, other, generation):
        self.assertEqual(first_near(rule, piece, other), generation)
        self.assertEqual(first_near(rule, other, piece), generation)

    def test_pieces_that_rest(self):
        for right, down in itertools.product(range(-6, 7), repeat=2):
            near = abs(right) <= 3 and abs(down) <= 3
            self.assert_first_near(LIFE, RESTING, moved_piece(RESTING, (right, down)), 0 if near else None)

    def test_pieces_that_turn(self):
        # The other one lies at first; upright it is near from 3 away.
        for move in ((0, 4), (0, 3), (4, 3), (5, 3), (5, 0), (4, 4)):
            other = moved_piece(TURNING, move)
            self.assert_first_near(LIFE, TURNING, other, first_near_tried(LIFE, TURNING, other, 10))
        self.assert_first_near(LIFE, TURNING, moved_piece(TURNING, (0, 4)), 1)
        self.assert_first_near(LIFE, TURNING, moved_piece(RESTING, (0, 3)), 1)
        self.assert_first_near(LIFE, TURNING, moved_piece(RESTING, (0, 4)), None)

    def test_a_piece_and_itself(self):
        for rule, piece in ((LIFE, RESTING), (LIFE, SHIPPING), (BRAIN, PHOTON)):
            self.assert_first_near(rule, piece, piece, 0)

    def test_pieces_that_meet_late(self):
        for far in (0, 1, 7, 10 ** 20, 10 ** 59):
            self.assert_first_near(LIFE, SHIPPING, moved_piece(RESTING, (15 + far, 12 + far)), 43 + 4 * far)
        back = moved_piece(turned_piece(SHIPPING, 2), (10 ** 40, 10 ** 40))
        early = first_near_tried(LIFE, SHIPPING, moved_piece(turned_piece(SHIPPING, 2), (30, 30)), 200)
        self.assert_first_near(LIFE, SHIPPING, back, early + 2 * (10 ** 40 - 30))
        left = moved_piece(PHOTON, (-FAR // 2, 0))
        self.assert_first_near(BRAIN, left, turned_piece(moved_piece(PHOTON, (-FAR // 2, 0)), 4), FAR // 2 - 1)

    def test_pieces_that_never_meet(self):
        self.assert_first_near(LIFE, SHIPPING, moved_piece(RESTING, (-9, -9)), None)
        self.assert_first_near(LIFE, SHIPPING, moved_piece(RESTING, (9, 60)), None)
        self.assert_first_near(LIFE, SHIPPING, moved_piece(turned_piece(SHIPPING, 2), (-9, -9)), None)
        self.assert_first_near(BRAIN, PHOTON, moved_piece(turned_piece(PHOTON, 4), (9, 4)), None)

    def test_pieces_that_pass_one_another(self):
        # So quick that at some distances they are near at one generation alone.
        for away in range(4, 30):
            other = moved_piece(turned_piece(PHOTON, 4), (away, 3))
            self.assert_first_near(BRAIN, PHOTON, other, first_near_tried(BRAIN, PHOTON, other, 40))
        for away in range(-4, 5):
            other = moved_piece(turned_piece(SHIPPING, 3), (20, 20 + away))
            self.assert_first_near(LIFE, SHIPPING, other, first_near_tried(LIFE, SHIPPING, other, 120))

    def test_a_piece_so_quick_that_it_is_beyond_when_the_other_one_comes_round(self):
        photon = turned_piece(WARS_GUN[3][0], 1)
        self.assertEqual(photon[1:], (1, (1, 0)))
        for away in range(20):
            quick = moved_piece(photon, (-20 - away, 0))
            told = first_near_tried(WARS, quick, SLOWLY_TURNING, 60)
            self.assertIsNotNone(told)
            self.assert_first_near(WARS, quick, SLOWLY_TURNING, told)

    def test_pieces_that_move_alike(self):
        for away in range(-8, 9):
            for generation in range(4):
                other = (shifted(steps(LIFE, SHIP, generation), (away, -away)), 4, (1, 1))
                self.assert_first_near(LIFE, SHIPPING, other, first_near_tried(LIFE, SHIPPING, other, 8))
        craft = (CRAFT,) + round_of(LIFE, CRAFT, 4)
        for away in range(3, 9):
            other = moved_piece((CRAFT, 12, (3 * craft[2][0], 0)), (0, away))
            self.assert_first_near(LIFE, craft, other, first_near_tried(LIFE, craft, other, 8))

    def test_one_piece_catches_another_up(self):
        craft = (CRAFT,) + round_of(LIFE, CRAFT, 4)
        right = craft if craft[2][0] > 0 else turned_piece(craft, 4)
        for away in range(9, 40, 5):
            other = moved_piece(SHIPPING, (away, -away // 2 + 4))
            self.assert_first_near(LIFE, right, other, first_near_tried(LIFE, right, other, 300))

    def test_periods_that_come_round_together_late(self):
        self.assert_first_near(LIFE, (REST, 240, (0, 0)), moved_piece((REST, 125, (0, 0)), (9, 0)), None)
        self.assert_first_near(LIFE, (REST, 240, (0, 0)), moved_piece((ROW, 50, (0, 0)), (0, 9)), None)
        for one, two in ((240, 127), (240, 175), (79, 80), (101, 60)):
            other = moved_piece((REST, two, (0, 0)), (9, 0))
            self.assert_error(TooMany, {"most": 6000}, first_near, LIFE, (REST, one, (0, 0)), other)
        self.assert_error(TooMany, {"most": 6000}, first_near, LIFE, (REST, 240, (0, 0)), (REST, 127, (0, 0)))
        self.assert_error(TooMany, {"most": 6000}, first_near, LONG_RULE, LONG, moved_piece(LONGER, (40, 0)))
        self.assert_first_near(LONG_RULE, LONGER, moved_piece(LONGER, (40, 0)), None)
        for right in (8, 9):
            other = moved_piece(turned_piece(LONGER, 3), (right, 6))
            self.assert_first_near(LONG_RULE, LONGER, other, first_near_tried(LONG_RULE, LONGER, other, 125))

    def test_pieces_of_300_cells(self):
        crowd = (CROWD, 240, (0, 0))
        self.assert_first_near(LIFE, crowd, (shifted(CROWD, (0, 4)), 125, (0, 0)), None)
        self.assert_first_near(LIFE, crowd, (shifted(CROWD, (2, 3)), 125, (0, 0)), 0)
        away = 10 ** 30
        ship = moved_piece((SHIP, 240, (60, 60)), (-away, -away))
        early = first_near_tried(LIFE, moved_piece(SHIPPING, (-9, -9)), crowd, 60)
        self.assert_first_near(LIFE, ship, crowd, early + 4 * (away - 9))

    def test_parts_far_from_one_another(self):
        far = 10 ** 50
        ship, rest = moved_piece(SHIPPING, (5, 5)), moved_piece(RESTING, (30, 30))
        rests = (REST + shifted(REST, (far, far)), 1, (0, 0))
        early = first_near_tried(LIFE, ship, rest, 200)
        self.assert_first_near(LIFE, ship, rests, early + 4 * (far - 30))
        ships = (shifted(SHIP, (5 - far, 5)) + SHIP, 4, (1, 1))
        self.assert_first_near(LIFE, ships, moved_piece(RESTING, (30 - far, 30)), early)
        self.assert_first_near(LIFE, ships, moved_piece(RESTING, (far + 25, far + 25)), early + 4 * far)

    def test_many_pieces(self):
        for rule, seed in ((LIFE, 2), (BRAIN, 3), (WARS, 5)):
            found = pieces_of_rule(rule, seed, 60)
            self.assertGreater(len(found), 3)
            numbers = many_numbers(seed)
            for one, two in itertools.product(found[:9], found[:9]):
                two = turned_piece(two, next(numbers) % 8)
                two = moved_piece(two, (next(numbers) % 25 - 12, next(numbers) % 25 - 12))
                self.assert_first_near_as_tried(rule, one, two)

    def assert_first_near_as_tried(self, rule, one, two):
        told = first_near(rule, one, two)
        tried = first_near_tried(rule, one, two, 30)
        if tried is None:
            self.assertTrue(told is None or told > 30, (rule, one, two))
        else:
            self.assertEqual(told, tried, (rule, one, two))

    def test_wrong_arguments(self):
        rules = [(BadRule, {}, value) for value in NO_RULES]
        wrong = [(BadPiece, {}, value) for value in NO_PIECES]
        self.assert_arguments(first_near, (LIFE, SHIPPING, RESTING), (rules, wrong, wrong))

    def test_wrong_pieces_come_ahead_of_periods(self):
        self.assert_error(BadPiece, {}, first_near, LIFE, (REST, 240, (0, 0)), (ROW, 127, (0, 0)))
        growing = (((0, 0, 1),), 100, (0, 0))
        self.assert_error(TooMany, {"most": 3000}, first_near, GROWING, growing, None)
        self.assert_error(BadPiece, {}, first_near, GROWING, None, growing)


class FormOfTest(ErrorTest):

    def test_one_piece_at_all_generations_and_in_all_ways(self):
        for rule, board in (
            (LIFE, ROW), (LIFE, SHIP), (LIFE, PULSAR), (LIFE, CRAFT), (LIFE, steps(LIFE, LONG_ROW, 100)),
            (BRAIN, PHOTON[0]), (LIFE, SNAKE[0]), (WARS, SLOWLY_TURNING[0]),
        ):
            period, move = round_of(rule, board, 20)
            phases = [steps(rule, board, generation) for generation in range(period)]
            normal = [[shifted(way, (-min(x for x, _, _ in way), -min(y for _, y, _ in way)))
                       for way in [turned(phase, turn) for turn in range(8)]] for phase in phases]
            least = min(way for ways in normal for way in ways)
            for generation, turn in itertools.product(range(0, period, 1 + period // 5), range(8)):
                piece = turned_piece((phases[generation], period, move), turn)
                self.assertEqual(form_of(rule, moved_piece(piece, (FAR // 2, -99))), least)

    def test_periods_that_are_not_the_least(self):
        self.assertEqual(form_of(LIFE, (SHIP, 240, (60, 60))), form_of(LIFE, SHIPPING))
        self.assertEqual(form_of(LIFE, (ROW, 240, (0, 0))), ((0, 0, 1), (0, 1, 1), (0, 2, 1)))

    def test_other_pieces_have_other_forms(self):
        others = (RESTING, TURNING, SHIPPING, (PULSAR, 3, (0, 0)), (CROWD, 1, (0, 0)))
        self.assertEqual(len({form_of(LIFE, piece) for piece in others}), 5)

    def test_states(self):
        self.assertEqual(form_of(BRAIN, PHOTON), ((0, 0, 1), (0, 1, 1), (1, 0, 2), (1, 1, 2)))


class KindOfTest(unittest.TestCase):

    def test_kinds(self):
        for rule, piece, kind in (
            (LIFE, RESTING, "rests"), (LIFE, (REST, 240, (0, 0)), "rests"), (LIFE, (CROWD, 3, (0, 0)), "rests"),
            (LIFE, TURNING, "turns"), (LIFE, (ROW, 4, (0, 0)), "turns"), (LIFE, (PULSAR, 3, (0, 0)), "turns"),
            (LIFE, SHIPPING, "travels"), (LIFE, (SHIP, 240, (60, 60)), "travels"), (BRAIN, PHOTON, "travels"),
        ):
            self.assertEqual(kind_of(rule, piece), kind)


class WrongPiecesTest(ErrorTest):

    def test_wrong_arguments(self):
        rules = [(BadRule, {}, value) for value in NO_RULES]
        wrong = [(BadPiece, {}, value) for value in NO_PIECES]
        for call in (form_of, kind_of):
            self.assert_arguments(call, (LIFE, SHIPPING), (rules, wrong))
            self.assert_error(BadPiece, {}, call, BRAIN, SHIPPING)
            self.assert_error(TooMany, {"most": 3000}, call, GROWING, (((0, 0, 1),), 100, (0, 0)))


if __name__ == "__main__":
    unittest.main()
