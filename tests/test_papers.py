"""Points 10 and 11: papers, and what they tell."""

import unittest

from fateboards import papers
from fateboards.boards import box, living, shifted, state_at
from fateboards.errors import BadBoard, BadMove, BadNumber, BadPaper, BadRule, TooEarly, TooMany
from fateboards.papers import fate_board, fate_box, fate_cell, fate_living, shows_fate
from fateboards.pieces import shows_piece
from fateboards.steps import steps
from tests.helpers import (
    BRAIN, FAR, GROWING, LIFE, NO_BOARDS, NO_INTEGERS, NO_PLACES, NO_RULES, NO_TUPLES, REST, ROW, SHIP, STAYING, WARS,
    ErrorTest, many_numbers, wrong_numbers,
)
from tests.naive import naive_meeting
from tests.samples import (
    GREAT_RAKE, GUN, PHOTON, RAKE, RESTING, SHIPPING, SLOW, TRAIL, TRAIL_RULE, TURNING, WARS_GUN, moved_piece,
    moved_thrower, slowed, slowed_throws, turned_piece, turned_thrower,
)

SAMPLES = (
    (LIFE, (0, (), ())),
    (LIFE, (0, (RESTING, moved_piece(TURNING, (9, 0)), moved_piece(SHIPPING, (30, 30))), ())),
    (LIFE, (0, (), (GUN,))),
    (LIFE, (0, (moved_piece(RESTING, (60, 2)), moved_piece(slowed(TURNING, 3), (2, 40))), (GUN,))),
    (WARS, (0, (), (WARS_GUN,))),
    (BRAIN, (0, (turned_piece(PHOTON, 2),), (moved_thrower(RAKE, (20, 0)),))),
    (BRAIN, (0, (), (GREAT_RAKE,))),
    (TRAIL_RULE, (0, (), (TRAIL,))),
    (TRAIL_RULE, (0, (), (turned_thrower(SLOW, 5),))),
)
CALLS = (fate_living, fate_box, fate_board)

NO_PAPERS = NO_TUPLES + (
    (), (0, ()), (0, (), (), ()), [0, (), ()], (-1, (), ()), (2001, (), ()), (0, [RESTING], ()), (0, (), [GUN]),
    (0, RESTING, ()), (0, (), GUN), (0, (GUN,), ()), (0, (), (RESTING,)), (0, (RESTING[:2],), ()), (0, (), (GUN[:3],)),
    (0, (list(RESTING),), ()), (0, (), (list(GUN),)), (0, ((REST, 241, (0, 0)),), ()), (0, (((), 1, (0, 0)),), ()),
    (0, (), (GUN[:3] + ((),),)), (0, (), (GUN[:3] + (GUN[3] * 7,),)), (0, (), (GUN, moved_thrower(GUN, (900, -900)))),
    (0, tuple(moved_piece(RESTING, (9 * place, 0)) for place in range(61)), ()),
) + tuple((value, (), ()) for value in NO_INTEGERS) + tuple((0, (value,), ()) for value in NO_TUPLES) + tuple(
    (0, (), (value,)) for value in NO_TUPLES
) + tuple((0, ((REST, 1, value),), ()) for value in NO_PLACES)

# These have the form, but what they tell is not so.
UNTRUE = (
    (0, ((REST, 1, (1, 0)),), ()),
    (0, ((ROW, 1, (0, 0)),), ()),
    (0, ((((0, 0, 2),), 1, (0, 0)),), ()),
    (0, (), (GUN[:1] + (29,) + GUN[2:],)),
    (0, (RESTING, RESTING), ()),
    (0, (RESTING, moved_piece(RESTING, (1, 1))), ()),
    (0, (RESTING, moved_piece(RESTING, (3, 0))), ()),
    (0, (SHIPPING, moved_piece(RESTING, (90, 90))), ()),
    (0, (moved_piece(RESTING, (0, 4)),), (GUN,)),
    (0, (moved_piece(RESTING, (90, 76)),), (GUN,)),
)


def first_board(paper):
    return tuple(sorted(cell for part in paper[1] + paper[2] for cell in part[0]))


class InterfaceTest(unittest.TestCase):

    def test_functions_are_defined_in_this_file(self):
        for name in ("shows_fate", "fate_cell", "fate_living", "fate_box", "fate_board"):
            self.assertEqual(getattr(papers, name).__module__, "fateboards.papers")

    def test_example(self):
        paper = (0, ((REST, 1, (0, 0)),), ())
        self.assertIs(shows_fate(LIFE, REST, paper), True)
        self.assertIs(shows_fate(LIFE, REST[:3], (1, paper[1], ())), True)
        self.assertEqual(fate_living(LIFE, paper, 10 ** 40), 4)
        self.assertEqual(fate_cell(LIFE, paper, 7, (1, 1)), 1)


class ShowsFateTest(ErrorTest):

    def test_samples(self):
        for rule, paper in SAMPLES:
            self.assertIs(shows_fate(rule, first_board(paper), paper), True)
            self.assertIsNone(naive_meeting(rule, paper, 100))

    def test_later_generations(self):
        self.assertIs(shows_fate(LIFE, ((0, 0, 1), (5, 5, 1)), (1, (), ())), True)
        self.assertIs(shows_fate(LIFE, ((0, 0, 1), (5, 5, 1)), (0, (), ())), False)
        self.assertIs(shows_fate(LIFE, REST[1:], (1, (RESTING,), ())), True)
        self.assertIs(shows_fate(LIFE, REST[1:], (2000, (RESTING,), ())), True)
        self.assertIs(shows_fate(LIFE, REST[1:], (2001, (RESTING,), ())), False)
        self.assertIs(shows_fate(LIFE, REST[1:], (0, (RESTING,), ())), False)
        self.assertIs(shows_fate(LIFE, ROW, (2000, (TURNING,), ())), True)
        self.assertIs(shows_fate(LIFE, ROW, (1999, (TURNING,), ())), False)
        self.assertIs(shows_fate(LIFE, SHIP, (2000, (moved_piece(SHIPPING, (500, 500)),), ())), True)
        self.assertIs(shows_fate(LIFE, SHIP, (2000, (moved_piece(SHIPPING, (500, 499)),), ())), False)

    def test_other_boards(self):
        paper = (0, (RESTING,), ())
        for board in ((), REST[1:], REST + ((9, 9, 1),), shifted(REST, (0, 1)), ROW):
            self.assertIs(shows_fate(LIFE, board, paper), False)
        self.assertIs(shows_fate(LIFE, REST, (0, (), ())), False)

    def test_the_order_of_pieces_does_not_matter(self):
        pieces = SAMPLES[1][1][1]
        self.assertIs(shows_fate(LIFE, first_board(SAMPLES[1][1]), (0, pieces[::-1], ())), True)

    def test_60_and_61_pieces(self):
        crowd = tuple(moved_piece(RESTING, (9 * place, 5)) for place in range(61))
        self.assertIs(shows_fate(LIFE, first_board((0, crowd[:60], ())), (0, crowd[:60], ())), True)
        self.assertIs(shows_fate(LIFE, first_board((0, crowd, ())), (0, crowd, ())), False)

    def test_none_one_and_two_throwers(self):
        two = (GUN, moved_thrower(turned_thrower(GUN, 2), (-50, -50)))
        self.assertIs(shows_fate(LIFE, (), (0, (), ())), True)
        self.assertIs(shows_fate(LIFE, GUN[0], (0, (), two[:1])), True)
        self.assertIs(shows_fate(LIFE, first_board((0, (), two)), (0, (), two)), False)

    def test_states_that_the_rule_has_not(self):
        for board in (((9, 9, 2),), tuple(sorted(REST + ((9, 9, 5),)))):
            self.assertIs(shows_fate(LIFE, board, (1, (), ())), False)
            self.assertIs(shows_fate(LIFE, board, (1, (RESTING,), ())), False)
        self.assertIs(shows_fate(BRAIN, ((9, 9, 2),), (1, (), ())), True)
        self.assertIs(shows_fate(BRAIN, ((9, 9, 3),), (1, (), ())), False)

    def test_parts_that_are_not_such(self):
        for paper in UNTRUE[:4]:
            self.assertIs(shows_fate(LIFE, first_board(paper), paper), False)

    def test_parts_with_a_cell_in_common(self):
        self.assertIs(shows_fate(LIFE, REST, (0, (RESTING, RESTING), ())), False)
        self.assertIs(shows_fate(LIFE, GUN[0], (0, (moved_piece(RESTING, (0, 4)),), (GUN,))), False)

    def test_parts_that_come_near(self):
        for away in range(2, 7):
            paper = (0, (RESTING, moved_piece(RESTING, (away, 0))), ())
            self.assertIs(shows_fate(LIFE, first_board(paper), paper), away > 3)

    def test_parts_that_come_near_late(self):
        for away in (20, 10 ** 20, 10 ** 58):
            for right, told in ((0, False), (8, True)):
                paper = (0, (SHIPPING, moved_piece(RESTING, (away + right, away))), ())
                self.assertIs(shows_fate(LIFE, first_board(paper), paper), told)
                paper = (0, (moved_piece(RESTING, (away + right + 24, away + 10)),), (GUN,))
                self.assertIs(shows_fate(LIFE, first_board(paper), paper), told)
            # Along the trail of what rests, as quick as the thrower that leaves it.
            for down, told in ((0, False), (-30, True)):
                photon = ((((-away, down, 1), (-away, down + 1, 1), (-away - 1, down, 2), (-away - 1, down + 1, 2),
                            (-away - 2, down, 3), (-away - 2, down + 1, 3))), 1, (1, 0))
                photon = (tuple(sorted(photon[0])),) + photon[1:]
                self.assertIs(shows_piece(TRAIL_RULE, photon), True)
                photon = moved_piece(photon, (0, 4))
                paper = (0, (photon,), (TRAIL,))
                self.assertIs(shows_fate(TRAIL_RULE, first_board(paper), paper), told)

    def test_many_pieces_beside_throwers(self):
        numbers = many_numbers(13)
        found = {True: 0, False: 0}
        for _ in range(60):
            rule, thrower = ((BRAIN, RAKE), (TRAIL_RULE, SLOW), (WARS, WARS_GUN))[next(numbers) % 3]
            piece = turned_piece(thrower[3][0], next(numbers) % 8)
            x, y, _ = piece[0][0]
            piece = moved_piece(piece, (next(numbers) % 61 - 30 - x, next(numbers) % 61 - 30 - y))
            paper = (0, (piece,), (thrower,))
            board = first_board(paper)
            if len({cell[:2] for cell in board}) == len(board):
                told = shows_fate(rule, board, paper)
                self.assertIs(told, naive_meeting(rule, paper, 110) is None, (rule, paper))
                found[told] += 1
        self.assertGreater(min(found.values()), 8)

    def test_values_that_are_no_papers(self):
        for value in NO_PAPERS:
            self.assertIs(shows_fate(LIFE, REST, value), False, value)

    def test_wrong_arguments(self):
        rules = [(BadRule, {}, value) for value in NO_RULES]
        boards = [(BadBoard, {"index": index}, value) for value, index in NO_BOARDS]
        self.assert_arguments(shows_fate, (LIFE, REST, (0, (RESTING,), ())), (rules, boards))
        self.assert_error(BadRule, {}, shows_fate, None, None, None)
        self.assert_error(BadBoard, {"index": None}, shows_fate, LIFE, None, None)


class OrderTest(ErrorTest):
    """What is looked at first decides."""

    def assert_too_many(self, most, rule, board, paper):
        self.assert_error(TooMany, {"most": most}, shows_fate, rule, board, paper)

    def test_the_form_and_the_states_come_first(self):
        growing = (((0, 0, 1),), 200, (0, 0))
        self.assert_too_many(3000, GROWING, (), (0, (growing,), ()))
        self.assertIs(shows_fate(GROWING, (), (0, (growing, None), ())), False)
        self.assertIs(shows_fate(GROWING, (), (0, (growing,), (None,))), False)
        self.assertIs(shows_fate(GROWING, ((5, 5, 2),), (0, (growing,), ())), False)

    def test_pieces_in_their_order_and_the_thrower(self):
        growing, dying = (((0, 0, 1),), 200, (0, 0)), (((0, 0, 2),), 1, (0, 0))
        thrower = growing + ((growing,),)
        self.assert_too_many(3000, GROWING, (), (0, (growing, dying), ()))
        self.assertIs(shows_fate(GROWING, (), (0, (dying, growing), ())), False)
        self.assertIs(shows_fate(GROWING, (), (0, (dying,), (thrower,))), False)
        self.assert_too_many(3000, GROWING, (), (0, (), (thrower,)))
        self.assert_too_many(3000, GROWING, (), (0, (growing, growing), (thrower,)))
        self.assert_too_many(6000, WARS, (), (0, (), (slowed_throws(WARS_GUN, 78),)))

    def test_the_thrower_comes_ahead_of_what_is_together(self):
        slow = slowed_throws(WARS_GUN, 78)
        piece = moved_piece(WARS_GUN[3][0], (0, 5))
        self.assertIs(shows_piece(WARS, piece), True)
        self.assertIs(bool({cell[:2] for cell in piece[0]} & {cell[:2] for cell in WARS_GUN[0]}), True)
        self.assert_too_many(6000, WARS, (), (0, (piece,), (slow,)))
        self.assertIs(shows_fate(WARS, (), (0, (piece,), (WARS_GUN,))), False)

    def test_a_cell_in_common_comes_ahead_of_periods(self):
        one, two = slowed(RESTING, 240), slowed(moved_piece(RESTING, (9, 0)), 127)
        self.assert_too_many(6000, LIFE, (), (0, (one, two), ()))
        self.assertIs(shows_fate(LIFE, (), (0, (one, two, one), ())), False)

    def test_each_piece_with_each_one_behind_it(self):
        one, two = slowed(RESTING, 240), slowed(moved_piece(RESTING, (9, 0)), 127)
        near = moved_piece(RESTING, (3, 0))
        self.assertIs(shows_fate(LIFE, (), (0, (one, near, two), ())), False)
        self.assert_too_many(6000, LIFE, (), (0, (one, two, near), ()))
        self.assert_too_many(6000, LIFE, (), (0, (two, one, near), ()))
        self.assertIs(shows_fate(LIFE, (), (0, (near, one, two), ())), False)

    def test_a_piece_and_the_thrower(self):
        far = moved_piece(WARS_GUN[3][0], (90, 0))
        for thrown, period, judged in (
            (49, 35, True), (35, 49, False), (1, 77, True), (1, 78, False), (1, 170, True), (1, 175, False),
            (77, 1, True),
        ):
            paper = (0, (slowed(far, period),), (slowed_throws(WARS_GUN, thrown),))
            if judged:
                self.assertIs(shows_fate(WARS, first_board(paper), paper), True)
            else:
                self.assert_too_many(6000, WARS, (), paper)

    def test_a_piece_and_the_core(self):
        # The core has the period 30: with 239 there are 7170 generations until both come round.
        thrown = tuple(moved_piece(WARS_GUN[3][0], (0, -5 * throw)) for throw in range(6))
        slow = (WARS_GUN[0], 30, (0, 0), thrown)
        far = moved_piece(WARS_GUN[3][0], (90, 0))
        self.assertIs(shows_fate(WARS, first_board((0, (far,), (slow,))), (0, (far,), (slow,))), True)
        self.assert_too_many(6000, WARS, (), (0, (slowed(far, 239),), (slow,)))
        # What hits the core is seen ahead of the periods of what is thrown, which would be too many.
        hitting = moved_piece(turned_piece(WARS_GUN[3][0], 2), (4, -90))
        self.assertIs(shows_fate(WARS, (), (0, (slowed(hitting, 78),), (WARS_GUN,))), False)
        self.assert_too_many(6000, WARS, (), (0, (slowed(far, 78),), (WARS_GUN,)))

    def test_the_thrower_comes_ahead_of_later_pieces(self):
        slow = slowed(moved_piece(WARS_GUN[3][0], (90, 0)), 78)
        one, near = moved_piece(WARS_GUN[3][0], (150, 0)), moved_piece(WARS_GUN[3][0], (153, 0))
        self.assert_too_many(6000, WARS, (), (0, (slow, one, near), (WARS_GUN,)))
        self.assertIs(shows_fate(WARS, (), (0, (one, near, slow), (WARS_GUN,))), False)
        self.assertIs(shows_fate(WARS, (), (0, (one, slow, near), (WARS_GUN,))), False)

    def test_steps_come_last(self):
        board = tuple((3 * x, 0, 1) for x in range(3001))
        self.assert_too_many(3000, LIFE, board, (1, (), ()))
        self.assertIs(shows_fate(LIFE, board, (0, (), ())), False)
        self.assertIs(shows_fate(LIFE, board, (1, UNTRUE[5][1], ())), False)
        self.assertIs(shows_fate(LIFE, board, (1, UNTRUE[1][1], ())), False)
        edge = tuple((FAR, y, 1) for y in (0, 1, 2))
        self.assert_error(BadBoard, {"index": None}, shows_fate, LIFE, edge, (1, (), ()))


class FateTest(ErrorTest):

    def test_as_the_steps_tell(self):
        for rule, paper in SAMPLES:
            board = first_board(paper)
            period = paper[2][0][1] if paper[2] else 4
            for generation in list(range(0, 3 * period + 7, 1 + period // 4)) + [period, 2 * period - 1, 2 * period]:
                self.assert_told(rule, paper, generation, steps(rule, board, generation))

    def assert_told(self, rule, paper, generation, board):
        self.assertEqual(fate_board(rule, paper, generation), board)
        self.assertEqual(fate_box(rule, paper, generation), box(board))
        self.assertEqual(fate_living(rule, paper, generation), living(board))
        for x, y, _ in board[::1 + len(board) // 3]:
            for place in ((x, y), (x + 1, y), (x, y - 1)):
                self.assertEqual(fate_cell(rule, paper, generation, place), state_at(board, place))

    def test_papers_of_later_generations(self):
        paper = (7, (moved_piece(SHIPPING, (3, 3)), moved_piece(TURNING, (40, 3))), ())
        board = first_board(paper)
        for generation in range(7, 20):
            self.assert_told(LIFE, paper, generation, steps(LIFE, board, generation - 7))
        late = (2000,) + SAMPLES[3][1][1:]
        self.assert_told(LIFE, late, 2000 + 77, steps(LIFE, first_board(late), 77))

    def test_much_later(self):
        for rule, paper in ((LIFE, SAMPLES[3][1]), (BRAIN, SAMPLES[5][1]), (TRAIL_RULE, SAMPLES[7][1])):
            generation = paper[2][0][1] * 40 + 3
            self.assert_told(rule, paper, generation, steps(rule, first_board(paper), generation))

    def test_empty_board(self):
        paper = (5, (), ())
        for generation in (5, 6, 10 ** 60):
            self.assertEqual([call(LIFE, paper, generation) for call in CALLS], [0, None, ()])
            self.assertEqual(fate_cell(LIFE, paper, generation, (0, 0)), 0)

    def test_pieces_at_late_generations(self):
        paper = (3, (RESTING, moved_piece(SHIPPING, (9, 9))), ())
        rounds = (10 ** 60 - 3) // 4
        rest = (10 ** 60 - 3) % 4
        ship = shifted(steps(LIFE, SHIP, rest), (9 + rounds, 9 + rounds))
        self.assertEqual(fate_board(LIFE, paper, 10 ** 60), REST + ship)
        self.assertEqual(fate_living(LIFE, paper, 10 ** 60), 9)
        self.assertEqual(fate_box(LIFE, paper, 10 ** 60), (0, 0) + box(ship)[2:])
        self.assertEqual([fate_cell(LIFE, paper, 10 ** 60, cell[:2]) for cell in ship], [1] * 5)

    def test_throwers_at_late_generations(self):
        paper = (0, (), (GUN,))
        for rounds in (1, 100, 10 ** 30, 3 * 10 ** 58):
            for rest in (0, 1, 17, 29):
                generation = 30 * rounds + rest
                early = steps(LIFE, GUN[0], 30 + rest)
                self.assertEqual(fate_living(LIFE, paper, generation), len(early) + 5 * (rounds - 1))
                # The eldest one, at its generation 30 * (rounds - 1) + rest.
                eldest = steps(LIFE, GUN[3][0][0], (30 * (rounds - 1) + rest) % 4)
                gone = (30 * (rounds - 1) + rest) // 4
                right, down = box(eldest)[2:]
                self.assertEqual(fate_box(LIFE, paper, generation)[:2], box(early)[:2])
                self.assertEqual(fate_box(LIFE, paper, generation)[2:], (
                    max(right + gone, box(early)[2]), max(down + gone, box(early)[3]),
                ))
                for x, y, _ in eldest:
                    self.assertEqual(fate_cell(LIFE, paper, generation, (x + gone, y + gone)), 1)
                    self.assertEqual(fate_cell(LIFE, paper, generation, (x + gone + 7, y + gone + 7)), 0)

    def test_cells_of_a_late_trail(self):
        # What rests is 8 apart, from the first throw on to the last one.
        rounds = 10 ** 50
        paper, generation = (0, (), (TRAIL,)), 8 * rounds
        for throw in (0, 1, 12345, rounds // 3, rounds - 1):
            self.assertEqual(fate_cell(TRAIL_RULE, paper, generation, (4 + 8 * throw, 4)), 1)
            for right, down in ((1, 0), (4, 0), (0, 1), (0, -1)):
                self.assertEqual(fate_cell(TRAIL_RULE, paper, generation, (4 + 8 * throw + right, 4 + down)), 0)
        for throw in (-1, -2, -rounds):
            self.assertEqual(fate_cell(TRAIL_RULE, paper, generation, (4 + 8 * throw, 4)), 0)
        core = shifted(TRAIL[0], (8 * rounds, 0))
        self.assertEqual([fate_cell(TRAIL_RULE, paper, generation, cell[:2]) for cell in core],
                         [cell[2] for cell in core])

    def test_no_error_is_named_for_what_goes_beyond_the_last_places(self):
        paper = (0, (PHOTON,), ())
        self.assertEqual(fate_box(BRAIN, paper, FAR), (FAR - 1, 0, FAR, 1))
        self.assertEqual(fate_box(BRAIN, (0, (moved_piece(PHOTON, (9, 0)),), ()), FAR), (FAR + 8, 0, FAR + 9, 1))

    def test_3000_cells_and_more(self):
        paper = (0, (), (GUN,))
        self.assertEqual(len(fate_board(LIFE, paper, 30 * 592)), 36 + 5 * 592)
        for generation in (30 * 593, 30 * 3000, 30 * 3001, 10 ** 60):
            self.assert_error(TooMany, {"most": 3000}, fate_board, LIFE, paper, generation)
        self.assertEqual(fate_living(LIFE, paper, 30 * 3001), 36 + 5 * 3001)
        self.assertEqual(fate_box(LIFE, paper, 30 * 3001)[:2], (0, 0))
        self.assertEqual(fate_cell(LIFE, paper, 30 * 3001, GUN[0][0][:2]), 1)
        fuller = (0, (moved_piece(RESTING, (0, 90)),), (GUN,))
        self.assertEqual(len(fate_board(LIFE, fuller, 30 * 592)), 3000)

    def test_pieces_of_3000_cells_and_more(self):
        crowd = tuple((x, y, 1) for x in range(20) for y in range(15))
        pieces = tuple((shifted(crowd, (30 * place, 0)), 1, (0, 0)) for place in range(10))
        self.assertEqual(fate_board(STAYING, (9, pieces, ()), 99), first_board((9, pieces, ())))
        more = pieces + ((((0, 90, 1),), 1, (0, 0)),)
        self.assert_error(TooMany, {"most": 3000}, fate_board, STAYING, (9, more, ()), 99)
        self.assertEqual(fate_living(STAYING, (9, more, ()), 99), 3001)
        self.assertEqual(fate_box(STAYING, (9, more, ()), 99), (0, 0, 289, 90))
        self.assertEqual(fate_cell(STAYING, (9, more, ()), 99, (0, 90)), 1)


class FateErrorsTest(ErrorTest):

    def wrong(self, first):
        numbers = [(BadNumber, {}, value) for value in wrong_numbers(0, FAR)]
        return (
            [(BadRule, {}, value) for value in NO_RULES],
            [(BadPaper, {}, value) for value in NO_PAPERS + UNTRUE],
            numbers + [(TooEarly, {"first": first}, value) for value in range(first)],
        )

    def test_wrong_arguments(self):
        paper = (3, SAMPLES[3][1][1], (GUN,))
        for call in CALLS:
            self.assert_arguments(call, (LIFE, paper, 5), self.wrong(3))
        places = [(BadMove, {}, value) for value in NO_PLACES]
        self.assert_arguments(fate_cell, (LIFE, paper, 5, (0, 0)), self.wrong(3) + (places,))

    def test_generations_ahead_of_the_papers(self):
        for first in (1, 7, 2000):
            paper = (first, (RESTING,), ())
            for call in CALLS:
                self.assert_error(TooEarly, {"first": first}, call, LIFE, paper, first - 1)
                self.assert_error(TooEarly, {"first": first}, call, LIFE, paper, 0)
            self.assert_error(TooEarly, {"first": first}, fate_cell, LIFE, paper, first - 1, (0, 0))
            self.assertEqual(fate_living(LIFE, paper, first), 4)

    def test_the_order_of_errors(self):
        many = (3, (), (slowed_throws(WARS_GUN, 78),))
        early = (3, (RESTING,), ())
        self.assert_error(TooMany, {"most": 6000}, fate_cell, WARS, many, -1, None)
        self.assert_error(BadPaper, {}, fate_cell, WARS, many + (0,), -1, None)
        self.assert_error(BadNumber, {}, fate_cell, LIFE, early, -1, None)
        self.assert_error(TooEarly, {"first": 3}, fate_cell, LIFE, early, 2, None)
        self.assert_error(BadMove, {}, fate_cell, LIFE, early, 3, None)
        self.assert_error(TooEarly, {"first": 3}, fate_board, LIFE, (3, (), (GUN,)), 2)
        self.assert_error(BadMove, {}, fate_cell, LIFE, (0, (), (GUN,)), 10 ** 60, (0, None))
        growing = (0, ((((0, 0, 1),), 200, (0, 0)),), ())
        self.assert_error(TooMany, {"most": 3000}, fate_living, GROWING, growing, None)
        edge = (0, (moved_piece(SHIPPING, (FAR - 2, 0)),), ())
        self.assert_error(BadBoard, {"index": None}, fate_box, LIFE, edge, None)


if __name__ == "__main__":
    unittest.main()
