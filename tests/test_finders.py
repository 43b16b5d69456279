"""Point 12: finding the fate of a board, and the thrower that it is."""

import itertools
import unittest

from fateboards import finders
from fateboards.boards import joined, lots, shifted
from fateboards.errors import BadBoard, BadNumber, BadRule, TooMany
from fateboards.finders import find_fate, find_thrower
from fateboards.papers import shows_fate
from fateboards.pieces import first_near, round_of
from fateboards.steps import step, steps
from fateboards.throwers import shows_thrower
from tests.helpers import (
    BRAIN, FAR, GROWING, LIFE, NO_BOARDS, NO_RULES, REST, ROW, SHIP, STAYING, WARS, ErrorTest, board_of, many_numbers,
    wrong_numbers,
)
from tests.samples import (
    GREAT_RAKE, GUN, LONG, LONG_RULE, LONGER, PHOTON, PULSAR, RAKE, RESTING, SLOW, TRAIL, TRAIL_RULE, WARS_GUN,
    moved_thrower, throwers_together, turned_thrower,
)


def crowd(many):
    """Many that rest, none near another."""
    return tuple((9 * place + x, y, 1) for place in range(many) for x, y, _ in REST)


def board_at_random(numbers, side, states):
    cells = {(x, y): next(numbers) % (2 * states) for x in range(side) for y in range(side)}
    return tuple((x, y, state) for (x, y), state in sorted(cells.items()) if 0 < state < states)


def pieces_tried(rule, board, many, most):
    """The lots of a board as pieces, if they are at most many that come round; None otherwise."""
    parts = lots(board)
    if len(parts) > many:
        return None
    pieces = []
    for part in parts:
        told = round_of(rule, part, most) if len(part) <= 300 else None
        if told is None:
            return None
        pieces.append((part,) + told)
    return tuple(pieces)


def fate_tried(rule, board, generations, most):
    """The fate of a board, looked for as the document says, without anything kept."""
    for generation in range(generations + 1):
        if generation > 0:
            board = step(rule, board)
        pieces = pieces_tried(rule, board, 60, most)
        if pieces is not None:
            if all(first_near(rule, one, two) is None for one, two in itertools.combinations(pieces, 2)):
                return (generation, pieces, ())
    return None


def thrower_tried(rule, board, periods, most):
    """The thrower that a board is, looked for as the document says, with all moves tried."""
    for period in range(1, periods + 1):
        later = steps(rule, board, period)
        for move in itertools.product(range(-period, period + 1), repeat=2):
            core = set(shifted(board, move))
            if core <= set(later):
                thrown = pieces_tried(rule, tuple(cell for cell in later if cell not in core), 6, most)
                if thrown and shows_thrower(rule, (board, period, move, thrown)):
                    return (board, period, move, thrown)
    return None


class InterfaceTest(unittest.TestCase):

    def test_functions_are_defined_in_this_file(self):
        for name in ("find_fate", "find_thrower"):
            self.assertEqual(getattr(finders, name).__module__, "fateboards.finders")

    def test_example(self):
        self.assertEqual(find_fate(LIFE, REST[:3], 5, 5), (1, ((REST, 1, (0, 0)),), ()))


class FindFateTest(ErrorTest):

    def test_fates(self):
        self.assertEqual(find_fate(LIFE, REST, 0, 1), (0, (RESTING,), ()))
        self.assertEqual(find_fate(LIFE, ROW, 9, 9), (0, ((ROW, 2, (0, 0)),), ()))
        self.assertEqual(find_fate(LIFE, SHIP, 9, 9), (0, ((SHIP, 4, (1, 1)),), ()))
        self.assertEqual(find_fate(BRAIN, PHOTON[0], 9, 9), (0, (PHOTON,), ()))
        self.assertEqual(find_fate(LIFE, ((0, 0, 1),), 9, 9), (1, (), ()))
        self.assertEqual(find_fate(LIFE, REST[:3] + ((90, 0, 1),), 9, 9), (1, (RESTING,), ()))

    def test_as_tried(self):
        numbers = many_numbers(1)
        for rule in (LIFE, BRAIN, WARS, ((3, 6), (2, 3), 2), TRAIL_RULE):
            told = 0
            for _ in range(8):
                board = board_at_random(numbers, 4 + next(numbers) % 3, rule[2])
                try:
                    tried = fate_tried(rule, board, 40, 12)
                except TooMany:
                    continue
                found = find_fate(rule, board, 40, 12)
                self.assertEqual(found, tried, (rule, board))
                if found is not None:
                    told += 1
                    self.assertIs(shows_fate(rule, board, found), True)
            self.assertGreater(told, 1)

    def test_generations(self):
        board = board_of(".aa", "aa", ".a")
        self.assertIsNone(find_fate(LIFE, board, 600, 240))
        row = tuple((x, 0, 1) for x in range(7))
        first = find_fate(LIFE, row, 600, 240)
        self.assertGreater(first[0], 3)
        self.assertEqual(find_fate(LIFE, row, first[0], 240), first)
        self.assertIsNone(find_fate(LIFE, row, first[0] - 1, 240))
        self.assertIsNone(find_fate(LIFE, row, 0, 240))
        for done in (1, first[0] - 1, first[0]):
            later = find_fate(LIFE, steps(LIFE, row, done), 600, 240)
            self.assertEqual(later, (first[0] - done,) + first[1:])

    def test_empty_board(self):
        for rule, generations, most in itertools.product((LIFE, BRAIN, GROWING), (0, 600), (1, 240)):
            self.assertEqual(find_fate(rule, (), generations, most), (0, (), ()))

    def test_most(self):
        self.assertIsNone(find_fate(LIFE, ROW, 600, 1))
        self.assertEqual(find_fate(LIFE, ROW, 0, 2), (0, ((ROW, 2, (0, 0)),), ()))
        self.assertIsNone(find_fate(LIFE, PULSAR, 60, 2))
        self.assertEqual(find_fate(LIFE, PULSAR, 0, 3), (0, ((PULSAR, 3, (0, 0)),), ()))
        self.assertIsNone(find_fate(LIFE, SHIP, 60, 3))
        self.assertEqual(find_fate(LIFE, SHIP, 0, 240), (0, ((SHIP, 4, (1, 1)),), ()))
        # Ten in a row come round behind 15 generations, but not at once.
        row = tuple((x, 0, 1) for x in range(10))
        self.assertIsNone(find_fate(LIFE, row, 60, 14))
        found = find_fate(LIFE, row, 60, 15)
        self.assertEqual([piece[1] for piece in found[1]], [15])
        self.assertEqual(find_fate(LIFE, row, 60, 240), found)

    def test_lots_in_their_order_with_their_least_periods(self):
        board = joined(shifted(ROW, (-20, 9)), joined(shifted(REST, (-10, 50)), PULSAR))
        self.assertEqual(
            find_fate(LIFE, board, 0, 240),
            (0, ((shifted(ROW, (-20, 9)), 2, (0, 0)), (shifted(REST, (-10, 50)), 1, (0, 0)), (PULSAR, 3, (0, 0))), ()),
        )

    def test_60_and_61_lots(self):
        self.assertEqual(len(find_fate(LIFE, crowd(60), 9, 9)[1]), 60)
        self.assertIsNone(find_fate(LIFE, crowd(61), 9, 9))
        # A cell more that dies is one lot too many at first.
        self.assertEqual(find_fate(LIFE, crowd(60) + ((999, 0, 1),), 9, 9)[0], 1)

    def test_300_and_301_cells(self):
        row = tuple((x, 0, 1) for x in range(301))
        self.assertEqual(find_fate(STAYING, row[:300], 9, 9), (0, ((row[:300], 1, (0, 0)),), ()))
        self.assertIsNone(find_fate(STAYING, row, 9, 9))
        self.assertIsNone(find_fate(STAYING, row + ((400, 0, 1),), 9, 9))

    def test_lots_that_come_near_later(self):
        for away in (9, 20, 60):
            board = joined(SHIP, shifted(REST, (away, away)))
            found = find_fate(LIFE, board, 600, 240)
            self.assertTrue(found is None or found[0] > 4 * (away - 7))
            self.assertEqual(find_fate(LIFE, joined(SHIP, shifted(REST, (away + 9, away))), 0, 240)[0], 0)
        board = joined(SHIP, shifted(REST, (10 ** 50, 10 ** 50)))
        self.assertIsNone(find_fate(LIFE, board, 60, 240))

    def test_states_that_the_rule_has_not(self):
        self.assertIsNone(find_fate(LIFE, REST + ((9, 9, 2),), 9, 9))
        self.assertIsNone(find_fate(BRAIN, ((9, 9, 3),), 600, 240))
        self.assertEqual(find_fate(BRAIN, ((9, 9, 2),), 600, 240), (1, (), ()))
        self.assertIsNone(find_fate(GROWING, ((0, 0, 1), (3, 0, 5)), 600, 240))

    def test_throwers_have_no_such_fate(self):
        self.assertIsNone(find_fate(WARS, WARS_GUN[0], 100, 20))
        self.assertIsNone(find_fate(LIFE, GUN[0], 100, 20))

    def test_limits_of_steps(self):
        self.assert_error(TooMany, {"most": 3000}, find_fate, GROWING, ((0, 0, 1),), 600, 240)
        self.assertIsNone(find_fate(GROWING, ((0, 0, 1),), 9, 9))
        many = tuple((9 * place, 0, 1) for place in range(3001))
        self.assertIsNone(find_fate(LIFE, many, 0, 240))
        self.assert_error(TooMany, {"most": 3000}, find_fate, LIFE, many, 1, 240)
        self.assertEqual(find_fate(LIFE, many[1:], 1, 240), (1, (), ()))

    def test_cells_beyond_the_last_places(self):
        self.assertEqual(find_fate(LIFE, shifted(REST, (FAR - 1, -FAR)), 9, 240)[0], 0)
        self.assert_error(BadBoard, {"index": None}, find_fate, LIFE, shifted(SHIP, (FAR - 2, 0)), 9, 240)
        self.assertEqual(find_fate(LIFE, shifted(SHIP, (FAR - 3, 0)), 9, 240)[1][0][1:], (4, (1, 1)))
        board = joined(REST, shifted(SHIP, (FAR - 2, 0)))
        self.assert_error(BadBoard, {"index": None}, find_fate, LIFE, board, 9, 240)
        # Here the first lot does not come round, so that the second one is not looked at.
        self.assertIsNone(find_fate(LIFE, joined(REST[:3], shifted(SHIP, (FAR - 2, 0))), 0, 240))

    def test_periods_that_come_round_together_too_late(self):
        long, longer = LONG[0], shifted(LONGER[0], (40, 0))
        self.assertEqual(find_fate(LONG_RULE, long, 0, 240), (0, (LONG,), ()))
        self.assertEqual(find_fate(LONG_RULE, longer, 0, 125)[1][0][1], 125)
        self.assert_error(TooMany, {"most": 6000}, find_fate, LONG_RULE, long + longer, 0, 240)
        self.assertIsNone(find_fate(LONG_RULE, long + longer, 9, 124))
        # One more lot that does not come round at first puts it off.
        board = tuple(sorted(long + longer + ((20, 0, 1),)))
        self.assertIsNone(find_fate(LONG_RULE, board, 0, 240))
        self.assert_error(TooMany, {"most": 6000}, find_fate, LONG_RULE, board, 9, 240)

    def test_wrong_arguments(self):
        self.assert_arguments(find_fate, (LIFE, REST, 5, 5), (
            [(BadRule, {}, value) for value in NO_RULES],
            [(BadBoard, {"index": index}, value) for value, index in NO_BOARDS],
            [(BadNumber, {}, value) for value in wrong_numbers(0, 600)],
            [(BadNumber, {}, value) for value in wrong_numbers(1, 240)],
        ))

    def test_wrong_numbers_come_ahead_of_limits(self):
        many = tuple((9 * place, 0, 1) for place in range(3001))
        self.assert_error(BadNumber, {}, find_fate, LIFE, many, 601, 240)
        self.assert_error(BadNumber, {}, find_fate, LIFE, many, 1, 0)
        self.assert_error(BadNumber, {}, find_fate, LIFE, ((0, 0, 2),), 1, 241)


class FindThrowerTest(ErrorTest):

    def test_samples(self):
        for rule, thrower in (
            (LIFE, GUN), (WARS, WARS_GUN), (BRAIN, RAKE), (BRAIN, GREAT_RAKE), (TRAIL_RULE, TRAIL), (TRAIL_RULE, SLOW),
        ):
            self.assertEqual(find_thrower(rule, thrower[0], 30, 12), thrower)
            self.assertEqual(find_thrower(rule, thrower[0], 240, 240), thrower)

    def test_moved_and_turned(self):
        for turn in range(8):
            for rule, thrower in ((WARS, WARS_GUN), (BRAIN, RAKE)):
                thrower = moved_thrower(turned_thrower(thrower, turn), (10 ** 59, -55))
                ordered = thrower[:3] + (tuple(sorted(thrower[3])),)
                self.assertEqual(find_thrower(rule, thrower[0], 9, 9), ordered)

    def test_periods(self):
        for periods in (1, 4, 5, 6, 29):
            self.assertEqual(find_thrower(WARS, WARS_GUN[0], periods, 9) is not None, periods >= 5)
        self.assertIsNone(find_thrower(LIFE, GUN[0], 29, 240))
        self.assertEqual(find_thrower(LIFE, GUN[0], 30, 240), GUN)

    def test_most(self):
        for most in (1, 2, 3, 4, 5, 240):
            self.assertEqual(find_thrower(LIFE, GUN[0], 30, most) is not None, most >= 4)
            self.assertEqual(find_thrower(WARS, WARS_GUN[0], 5, most), WARS_GUN)
            self.assertEqual(find_thrower(TRAIL_RULE, SLOW[0], 30, most) is not None, most >= 4)

    def test_up_to_6_thrown_pieces(self):
        guns = tuple(moved_thrower(WARS_GUN, (40 * place, 0)) for place in range(7))
        for many in range(1, 7):
            together = throwers_together(*guns[:many])
            self.assertEqual(find_thrower(WARS, together[0], 9, 9), together)
        self.assertIsNone(find_thrower(WARS, throwers_together(*guns)[0], 9, 9))

    def test_as_tried(self):
        numbers = many_numbers(21)
        found = {True: 0, False: 0}
        for _ in range(20):
            other = moved_thrower(turned_thrower(WARS_GUN, next(numbers) % 8), (
                next(numbers) % 51 - 25, next(numbers) % 51 - 25,
            ))
            if not set(cell[:2] for cell in other[0]) & set(cell[:2] for cell in WARS_GUN[0]):
                board = joined(WARS_GUN[0], other[0])
                tried = thrower_tried(WARS, board, 6, 3)
                self.assertEqual(find_thrower(WARS, board, 6, 3), tried, board)
                found[tried is not None] += 1
        self.assertGreater(min(found.values()), 1)
        for _ in range(30):
            rule = (BRAIN, TRAIL_RULE, ((2,), (), 2))[next(numbers) % 3]
            board = board_at_random(numbers, 4, rule[2])
            if board:
                try:
                    tried = thrower_tried(rule, board, 6, 4)
                except TooMany:
                    continue
                self.assertEqual(find_thrower(rule, board, 6, 4), tried, (rule, board))

    def test_boards_that_are_no_throwers(self):
        for rule, board in (
            (LIFE, REST), (LIFE, ROW), (LIFE, SHIP), (LIFE, ()), (LIFE, ((0, 0, 1),)), (LIFE, GUN[0][1:]),
            (LIFE, joined(GUN[0], shifted(REST, (64, 50)))), (BRAIN, PHOTON[0]),
        ):
            self.assertIsNone(find_thrower(rule, board, 40, 9))

    def test_1_to_300_cells(self):
        more = tuple((x, 900, 1) for x in range(0, 1200, 4))
        self.assertIsNone(find_thrower(LIFE, (), 240, 240))
        self.assertEqual(len(more), 300)
        self.assertIsNone(find_thrower(STAYING, more, 9, 9))
        rests = tuple(cell for place in range(66) for cell in shifted(REST, (200 + 9 * place, 0)))
        full = (tuple(sorted(GUN[0] + rests)),) + GUN[1:]
        self.assertEqual(len(full[0]), 300)
        self.assertEqual(find_thrower(LIFE, full[0], 30, 9), full)
        self.assertIsNone(find_thrower(LIFE, tuple(sorted(rests + GUN[0] + shifted(REST, (0, 900)))), 30, 9))

    def test_states_that_the_rule_has_not(self):
        self.assertIsNone(find_thrower(BRAIN, WARS_GUN[0], 9, 9))
        self.assertIsNone(find_thrower(LIFE, tuple(sorted(GUN[0] + ((90, 0, 2),))), 30, 9))
        self.assertIsNone(find_thrower(GROWING, ((0, 0, 1), (3, 0, 5)), 240, 240))

    def test_limits_of_steps(self):
        self.assert_error(TooMany, {"most": 3000}, find_thrower, GROWING, ((0, 0, 1),), 240, 1)
        self.assertIsNone(find_thrower(GROWING, ((0, 0, 1),), 9, 1))
        high = moved_thrower(WARS_GUN, (0, 6 - FAR))
        self.assertEqual(find_thrower(WARS, high[0], 5, 1), high)
        self.assert_error(BadBoard, {"index": None}, find_thrower, WARS, shifted(WARS_GUN[0], (0, 5 - FAR)), 5, 1)
        self.assertIsNone(find_thrower(WARS, shifted(WARS_GUN[0], (0, 5 - FAR)), 4, 1))

    def test_wrong_arguments(self):
        self.assert_arguments(find_thrower, (WARS, WARS_GUN[0], 5, 5), (
            [(BadRule, {}, value) for value in NO_RULES],
            [(BadBoard, {"index": index}, value) for value, index in NO_BOARDS],
            [(BadNumber, {}, value) for value in wrong_numbers(1, 240)],
            [(BadNumber, {}, value) for value in wrong_numbers(1, 240)],
        ))
        self.assert_error(BadNumber, {}, find_thrower, WARS, (), 5, 0)
        self.assert_error(BadNumber, {}, find_thrower, LIFE, ((0, 0, 2),), 0, 5)


if __name__ == "__main__":
    unittest.main()
