"""Point 14: where pieces meet first, and what comes of it."""

import itertools
import unittest

from fateboards import meetings
from fateboards.boards import shifted
from fateboards.cells import moved
from fateboards.errors import BadBoard, BadNumber, BadPiece, BadRule, TooMany
from fateboards.finders import find_fate
from fateboards.meetings import crossings, first_meeting, outcome
from fateboards.pieces import first_near, form_of
from fateboards.searches import census
from tests.helpers import (
    BRAIN, FAR, GROWING, LIFE, NO_RULES, REST, ROW, WARS, ErrorTest, board_of, many_numbers, wrong_numbers,
)
from tests.naive import NaiveTrack, naive_near
from tests.samples import (
    LONG, LONG_RULE, LONGER, NO_PIECES, PHOTON, PULSAR, RESTING, SHIPPING, SLOWLY_TURNING, SNAKE, TURNING, WARS_GUN,
    moved_piece, slowed, turned_piece,
)

HITTING = moved_piece(turned_piece(SHIPPING, 2), (20, 20))


def meeting_tried(rule, piece, other, most):
    """The first meeting of two pieces, with all generations up to the most tried."""
    one, two = NaiveTrack(rule, *piece), NaiveTrack(rule, *other)
    for generation in range(most + 1):
        boards = one.at(generation), two.at(generation)
        if naive_near(*boards):
            cells = sorted(boards[0] + boards[1])
            return (generation, tuple(cells)) if len({cell[:2] for cell in cells}) == len(cells) else None
    return None


def outcome_tried(rule, piece, other, generations, most):
    """The outcome of two pieces, as the document puts it together."""
    meeting = first_meeting(rule, piece, other)
    if meeting is None:
        return census(rule, (piece, other))
    paper = find_fate(rule, meeting[1], generations, most)
    return None if paper is None else census(rule, paper[1])


def crossings_tried(rule, piece, other, across, generations, most):
    """The crossings of two pieces, as the document puts them together."""
    found = []
    for move in itertools.product(range(-across, across + 1), repeat=2):
        later = moved_piece(other, move)
        if first_near(rule, piece, later) not in (None, 0):
            found.append((move, outcome(rule, piece, later, generations, most)))
    return tuple(found)


class InterfaceTest(unittest.TestCase):

    def test_functions_are_defined_in_this_file(self):
        for name in ("first_meeting", "outcome", "crossings"):
            self.assertEqual(getattr(meetings, name).__module__, "fateboards.meetings")


class FirstMeetingTest(ErrorTest):

    def test_near_at_first(self):
        for move in ((3, 0), (0, -3), (2, 2), (3, 3)):
            other = moved_piece(RESTING, move)
            self.assertEqual(first_meeting(LIFE, RESTING, other), (0, tuple(sorted(REST + other[0]))))

    def test_later(self):
        away = moved_piece(RESTING, (15, 12))
        generation, board = first_meeting(LIFE, SHIPPING, away)
        self.assertEqual(generation, 43)
        self.assertEqual((generation, board), meeting_tried(LIFE, SHIPPING, away, 50))
        self.assertEqual(len(board), 9)
        self.assertEqual(first_meeting(LIFE, away, SHIPPING), (generation, board))

    def test_much_later(self):
        far = 10 ** 30
        generation, board = first_meeting(LIFE, SHIPPING, moved_piece(RESTING, (15 + far, 12 + far)))
        self.assertEqual(generation, 43 + 4 * far)
        self.assertEqual(shifted(board, (-far, -far)), first_meeting(LIFE, SHIPPING, moved_piece(RESTING, (15, 12)))[1])

    def test_never(self):
        for other in (moved_piece(RESTING, (40, 0)), moved_piece(SHIPPING, (9, 9)), moved_piece(TURNING, (-9, -9))):
            self.assertIsNone(first_meeting(LIFE, SHIPPING, other))
            self.assertIsNone(first_meeting(LIFE, other, SHIPPING))

    def test_pieces_that_lie_on_one_another(self):
        for move in ((0, 0), (1, 0), (-1, 1)):
            self.assertIsNone(first_meeting(LIFE, RESTING, moved_piece(RESTING, move)))
        self.assertIsNone(first_meeting(LIFE, RESTING, TURNING))
        self.assertIsNotNone(first_meeting(LIFE, RESTING, moved_piece(TURNING, (2, 0))))

    def test_many_pieces(self):
        numbers = many_numbers(8)
        met = {True: 0, False: 0}
        for _ in range(120):
            rule, pieces = (
                (LIFE, (SHIPPING, RESTING, TURNING, SNAKE, (PULSAR, 3, (0, 0)))),
                (BRAIN, (PHOTON, PHOTON)),
                (WARS, (SLOWLY_TURNING, WARS_GUN[3][0])),
            )[next(numbers) % 3]
            one, two = pieces[next(numbers) % len(pieces)], pieces[next(numbers) % len(pieces)]
            two = turned_piece(two, next(numbers) % 8)
            two = moved_piece(two, (next(numbers) % 21 - 10, next(numbers) % 21 - 10))
            tried = meeting_tried(rule, one, two, 140)
            self.assertEqual(first_meeting(rule, one, two), tried)
            met[tried is not None] += 1
        self.assertGreater(min(met.values()), 20)

    def test_no_error_is_named_for_what_goes_beyond_the_last_places(self):
        ship = moved_piece(SHIPPING, (FAR - 6, 0))
        photon = moved_piece(turned_piece(SHIPPING, 3), (FAR - 6, 17))
        generation, board = first_meeting(LIFE, ship, photon)
        self.assertGreater(board[-1][0], FAR)
        early = first_meeting(LIFE, moved_piece(ship, (-FAR, 0)), moved_piece(photon, (-FAR, 0)))
        self.assertEqual(early, (generation, moved(board, (-FAR, 0))))

    def test_periods_that_come_round_together_too_late(self):
        self.assert_error(TooMany, {"most": 6000}, first_meeting, LIFE, slowed(RESTING, 240), slowed(RESTING, 127))
        self.assert_error(TooMany, {"most": 6000}, first_meeting, LONG_RULE, LONG, moved_piece(LONGER, (40, 0)))
        self.assertEqual(first_meeting(LIFE, slowed(RESTING, 240), slowed(moved_piece(RESTING, (2, 0)), 125))[0], 0)

    def test_wrong_arguments(self):
        rules = [(BadRule, {}, value) for value in NO_RULES]
        wrong = [(BadPiece, {}, value) for value in NO_PIECES]
        self.assert_arguments(first_meeting, (LIFE, SHIPPING, RESTING), (rules, wrong, wrong))
        self.assert_error(BadPiece, {}, first_meeting, LIFE, slowed(RESTING, 240), (ROW, 127, (0, 0)))
        growing = (((0, 0, 1),), 100, (0, 0))
        self.assert_error(TooMany, {"most": 3000}, first_meeting, GROWING, growing, None)
        self.assert_error(BadPiece, {}, first_meeting, GROWING, None, growing)


class OutcomeTest(ErrorTest):

    def test_pieces_that_never_meet(self):
        both = census(LIFE, (SHIPPING, RESTING))
        self.assertEqual(len(both), 2)
        self.assertEqual(outcome(LIFE, SHIPPING, moved_piece(RESTING, (40, 0)), 0, 1), both)
        self.assertEqual(outcome(LIFE, RESTING, moved_piece(RESTING, (9, 0)), 9, 9), ((REST, 2),))
        self.assertEqual(
            outcome(LIFE, slowed(RESTING, 7), moved_piece(slowed(RESTING, 3), (9, 0)), 0, 1), ((REST, 2),),
        )

    def test_pieces_that_lie_on_one_another(self):
        self.assertEqual(outcome(LIFE, RESTING, RESTING, 0, 1), ((REST, 2),))
        self.assertEqual(outcome(LIFE, RESTING, TURNING, 600, 240), census(LIFE, (RESTING, TURNING)))

    def test_pieces_that_meet(self):
        ends = {}
        for right, down in itertools.product(range(-6, 7), repeat=2):
            other = moved_piece(HITTING, (right, down))
            told = outcome(LIFE, SHIPPING, other, 300, 30)
            self.assertEqual(told, outcome_tried(LIFE, SHIPPING, other, 300, 30))
            ends[told] = True
        self.assertIn((), ends)
        self.assertGreater(len(ends), 3)

    def test_near_at_first(self):
        # Each sees just three of its own neighbours and none of the other piece.
        self.assertEqual(outcome(LIFE, RESTING, moved_piece(RESTING, (3, 0)), 0, 1), ((form_of(LIFE, (
            board_of("aa.aa", "aa.aa"), 1, (0, 0))), 1),))
        self.assertEqual(
            outcome(LIFE, RESTING, moved_piece(TURNING, (3, 0)), 300, 30),
            outcome_tried(LIFE, RESTING, moved_piece(TURNING, (3, 0)), 300, 30),
        )

    def test_no_fate_that_is_found(self):
        told = {}
        for right, down in itertools.product(range(-6, 7), repeat=2):
            other = moved_piece(HITTING, (right, down))
            if first_near(LIFE, SHIPPING, other) is not None:
                told[outcome(LIFE, SHIPPING, other, 0, 240)] = True
                self.assertIsNone(outcome(LIFE, SHIPPING, other, 0, 1))
        self.assertEqual(list(told), [None])

    def test_the_board_of_a_meeting_beyond_the_last_places(self):
        for down, right in ((0, 6), (FAR - 40, 6)):
            ship = moved_piece(SHIPPING, (FAR - right, down))
            other = moved_piece(turned_piece(SHIPPING, 3), (FAR - right, 17 + down))
            board = first_meeting(LIFE, ship, other)[1]
            index = min(index for index, cell in enumerate(board) if cell[0] > FAR)
            self.assertGreater(index, 0)
            self.assert_error(BadBoard, {"index": index}, outcome, LIFE, ship, other, 9, 9)
            self.assert_error(BadNumber, {}, outcome, LIFE, ship, other, 9, 0)

    def test_steps_beyond_the_last_places(self):
        # Their meeting is 5 wide, and what comes of it is 11 wide at most.
        other = moved_piece(turned_piece(SHIPPING, 3), (0, 10))
        early = outcome(LIFE, SHIPPING, other, 300, 30)
        self.assertEqual([many for _, many in early], [4])
        for away in (99, 10, 9, 4, 3):
            pair = [moved_piece(piece, (FAR - away, 0)) for piece in (SHIPPING, other)]
            if away >= 10:
                self.assertEqual(outcome(LIFE, *pair, 300, 30), early)
            else:
                board = first_meeting(LIFE, *pair)[1]
                beyond = [index for index, cell in enumerate(board) if cell[0] > FAR]
                self.assertEqual(beyond != [], away == 3)
                index = beyond[0] if beyond else None
                self.assert_error(BadBoard, {"index": index}, outcome, LIFE, *pair, 300, 30)

    def test_too_many(self):
        self.assert_error(TooMany, {"most": 6000}, outcome, LIFE, slowed(RESTING, 240), slowed(RESTING, 127), 9, 9)
        self.assert_error(BadNumber, {}, outcome, LIFE, slowed(RESTING, 240), slowed(RESTING, 127), 9, 0)
        # Under this rule two that rest make something that grows for ever.
        rule = ((2,), (0, 1), 2)
        pair = (((0, 0, 1),), 1, (0, 0))
        self.assert_error(
            TooMany, {"most": 3000}, outcome, rule, pair, moved_piece(pair, (1, 0)), 600, 1,
        )
        self.assertIsNone(outcome(rule, pair, moved_piece(pair, (1, 0)), 9, 1))

    def test_wrong_arguments(self):
        rules = [(BadRule, {}, value) for value in NO_RULES]
        wrong = [(BadPiece, {}, value) for value in NO_PIECES]
        self.assert_arguments(outcome, (LIFE, SHIPPING, RESTING, 9, 9), (
            rules, wrong, wrong,
            [(BadNumber, {}, value) for value in wrong_numbers(0, 600)],
            [(BadNumber, {}, value) for value in wrong_numbers(1, 240)],
        ))


class CrossingsTest(ErrorTest):

    def assert_crossings(self, rule, piece, other, across, generations, most):
        told = crossings(rule, piece, other, across, generations, most)
        self.assertEqual(told, crossings_tried(rule, piece, other, across, generations, most))
        self.assertEqual(told, tuple(sorted(told, key=lambda row: row[0])))
        return told

    def test_ships(self):
        told = self.assert_crossings(LIFE, SHIPPING, HITTING, 4, 200, 30)
        self.assertGreater(len(set(census for _, census in told)), 3)
        told = self.assert_crossings(LIFE, SHIPPING, moved_piece(turned_piece(SHIPPING, 1), (17, 0)), 3, 200, 30)
        self.assertGreater(len(told), 3)

    def test_a_ship_and_what_rests_or_turns(self):
        for other in (RESTING, TURNING, SNAKE, slowed(TURNING, 3)):
            told = self.assert_crossings(LIFE, SHIPPING, moved_piece(other, (9, 9)), 4, 100, 30)
            self.assertGreater(len(told), 8)
            told = self.assert_crossings(LIFE, moved_piece(other, (9, 9)), SHIPPING, 3, 100, 30)
            self.assertGreater(len(told), 8)

    def test_other_rules(self):
        self.assertGreater(len(self.assert_crossings(
            WARS, SLOWLY_TURNING, moved_piece(WARS_GUN[3][0], (0, 40)), 4, 20, 20,
        )), 8)
        self.assertGreater(len(self.assert_crossings(
            BRAIN, PHOTON, moved_piece(turned_piece(PHOTON, 2), (20, 0)), 4, 20, 20,
        )), 8)

    def test_across_0(self):
        self.assertEqual(
            crossings(LIFE, SHIPPING, HITTING, 0, 200, 30), (((0, 0), outcome(LIFE, SHIPPING, HITTING, 200, 30)),)
        )
        self.assertEqual(crossings(LIFE, SHIPPING, moved_piece(RESTING, (40, 0)), 0, 200, 30), ())
        self.assertEqual(crossings(LIFE, SHIPPING, moved_piece(RESTING, (4, 4)), 0, 200, 30), ())

    def test_across_12(self):
        told = crossings(LIFE, SHIPPING, HITTING, 12, 200, 30)
        moves = [move for move, _ in told]
        self.assertEqual(moves, sorted(set(moves)))
        tried = [
            move for move in itertools.product(range(-12, 13), repeat=2)
            if first_near(LIFE, SHIPPING, moved_piece(HITTING, move)) not in (None, 0)
        ]
        self.assertEqual(moves, tried)
        for move, ends in told[::17]:
            self.assertEqual(ends, outcome(LIFE, SHIPPING, moved_piece(HITTING, move), 200, 30))
        self.assert_error(BadNumber, {}, crossings, LIFE, SHIPPING, HITTING, 13, 200, 30)
        self.assert_error(BadNumber, {}, crossings, LIFE, SHIPPING, HITTING, -1, 200, 30)

    def test_near_at_first_and_never(self):
        # What rests is near what rests at once or never.
        self.assertEqual(crossings(LIFE, RESTING, RESTING, 12, 9, 9), ())
        self.assert_crossings(LIFE, SHIPPING, SHIPPING, 5, 9, 9)

    def test_no_fate_that_is_found(self):
        told = self.assert_crossings(LIFE, SHIPPING, HITTING, 2, 0, 1)
        self.assertGreater(len(told), 3)
        self.assertEqual({ends for _, ends in told}, {None})

    def test_boards_that_could_be_beyond_the_last_places_when_moved(self):
        for across in (0, 1, 12):
            for turn in range(4):
                rest = turned_piece(moved_piece(RESTING, (FAR - 1 - across, 5)), turn)
                self.assertEqual(crossings(LIFE, SHIPPING, rest, across, 9, 9), ())
                if across > 0:
                    rest = turned_piece(moved_piece(RESTING, (FAR - across, 5)), turn)
                    self.assert_error(BadPiece, {}, crossings, LIFE, SHIPPING, rest, across, 9, 9)
                    self.assert_error(BadPiece, {}, crossings, LIFE, rest, rest, across, 9, 9)
                    self.assertEqual(crossings(LIFE, rest, SHIPPING, across, 9, 9), ())
                    # This comes behind all numbers, but ahead of periods.
                    self.assert_error(BadNumber, {}, crossings, LIFE, SHIPPING, rest, 13, 9, 9)
                    self.assert_error(BadNumber, {}, crossings, LIFE, SHIPPING, rest, across, 601, 9)
                    self.assert_error(BadNumber, {}, crossings, LIFE, SHIPPING, rest, across, 9, 0)
                    slow = slowed(RESTING, 240)
                    self.assert_error(BadPiece, {}, crossings, LIFE, slow, slowed(rest, 127), across, 9, 9)

    def test_steps_of_moved_pieces_beyond_the_last_places(self):
        ship = moved_piece(SHIPPING, (FAR - 4, 0))
        self.assertEqual(crossings(LIFE, RESTING, ship, 1, 9, 9), ())
        self.assert_error(BadBoard, {"index": None}, crossings, LIFE, RESTING, ship, 2, 9, 9)
        self.assert_error(BadPiece, {}, crossings, LIFE, RESTING, ship, 3, 9, 9)

    def test_the_board_of_a_meeting_beyond_the_last_places(self):
        ship = moved_piece(SHIPPING, (FAR - 6, 0))
        other = moved_piece(turned_piece(SHIPPING, 3), (FAR - 6, 17))
        board = first_meeting(LIFE, ship, other)[1]
        index = min(index for index, cell in enumerate(board) if cell[0] > FAR)
        self.assert_error(BadBoard, {"index": index}, crossings, LIFE, ship, other, 0, 9, 9)

    def test_too_many(self):
        self.assert_error(
            TooMany, {"most": 6000}, crossings, LIFE, slowed(RESTING, 240), slowed(RESTING, 127), 0, 9, 9
        )
        self.assert_error(TooMany, {"most": 6000}, crossings, LONG_RULE, LONG, moved_piece(LONGER, (40, 0)), 3, 9, 9)

    def test_wrong_arguments(self):
        rules = [(BadRule, {}, value) for value in NO_RULES]
        wrong = [(BadPiece, {}, value) for value in NO_PIECES]
        self.assert_arguments(crossings, (LIFE, SHIPPING, RESTING, 1, 9, 9), (
            rules, wrong, wrong,
            [(BadNumber, {}, value) for value in wrong_numbers(0, 12)],
            [(BadNumber, {}, value) for value in wrong_numbers(0, 600)],
            [(BadNumber, {}, value) for value in wrong_numbers(1, 240)],
        ))


if __name__ == "__main__":
    unittest.main()
