"""Point 9: throwers."""

import itertools
import unittest

from fateboards import throwers
from fateboards.errors import BadBoard, BadRule, TooMany
from fateboards.pieces import shows_piece
from fateboards.steps import steps
from fateboards.throwers import shows_thrower
from tests.helpers import (
    BRAIN, FAR, GROWING, LIFE, NO_BOARDS, NO_INTEGERS, NO_PLACES, NO_RULES, NO_TUPLES, REST, WARS, ErrorTest,
    many_numbers,
)
from tests.naive import naive_meeting
from tests.samples import (
    GREAT_RAKE, GUN, RAKE, RESTING, SHIPPING, SLOW, TRAIL, TRAIL_RULE, WARS_GUN, moved_piece, moved_thrower, slowed,
    slowed_throws, throwers_together, turned_thrower,
)

SAMPLES = ((LIFE, GUN), (WARS, WARS_GUN), (BRAIN, RAKE), (BRAIN, GREAT_RAKE), (TRAIL_RULE, TRAIL), (TRAIL_RULE, SLOW))
# Guns beside one another that all throw upwards.
ROW_OF_GUNS = tuple(moved_thrower(WARS_GUN, (40 * place, 0)) for place in range(7))


def with_thrown(thrower, thrown):
    return thrower[:3] + (thrown,)


def with_rest(thrower, place):
    """The thrower with four cells in its core that rest at a place."""
    core = tuple(sorted(thrower[0] + moved_piece(RESTING, place)[0]))
    return (core,) + thrower[1:]


class InterfaceTest(unittest.TestCase):

    def test_functions_are_defined_in_this_file(self):
        self.assertEqual(throwers.shows_thrower.__module__, "fateboards.throwers")


class ThrowersTest(unittest.TestCase):

    def test_samples(self):
        for rule, thrower in SAMPLES:
            self.assertIs(shows_thrower(rule, thrower), True)
            self.assertIsNone(naive_meeting(rule, (0, (), (thrower,)), 4 * thrower[1]))

    def test_moved_and_turned(self):
        for turn in range(8):
            self.assertIs(shows_thrower(LIFE, turned_thrower(GUN, turn)), True)
            self.assertIs(shows_thrower(BRAIN, moved_thrower(turned_thrower(RAKE, turn), (-10 ** 40, 77))), True)

    def test_1_to_6_thrown_pieces(self):
        for many in range(1, 7):
            self.assertIs(shows_thrower(WARS, throwers_together(*ROW_OF_GUNS[:many])), True)
        self.assertIs(shows_thrower(WARS, throwers_together(*ROW_OF_GUNS)), False)
        self.assertIs(shows_thrower(LIFE, (REST, 1, (0, 0), ())), False)
        self.assertIs(shows_thrower(WARS, with_thrown(WARS_GUN, ())), False)

    def test_order_of_what_is_thrown_does_not_matter(self):
        for thrown in itertools.permutations(TRAIL[3]):
            self.assertIs(shows_thrower(TRAIL_RULE, with_thrown(TRAIL, thrown)), True)

    def test_thrown_pieces_of_many_parts(self):
        three = throwers_together(*ROW_OF_GUNS[:3])
        one = (tuple(sorted(cell for piece in three[3] for cell in piece[0])), 1, (0, -1))
        self.assertIs(shows_thrower(WARS, with_thrown(three, (one,))), True)
        far = throwers_together(WARS_GUN, moved_thrower(WARS_GUN, (10 ** 50, 10 ** 55)))
        one = (tuple(sorted(cell for piece in far[3] for cell in piece[0])), 1, (0, -1))
        self.assertIs(shows_thrower(WARS, with_thrown(far, (one,))), True)

    def test_several_throws_as_one_period(self):
        twice = WARS_GUN[3] + (moved_piece(WARS_GUN[3][0], (0, -5)),)
        self.assertIs(shows_thrower(WARS, (WARS_GUN[0], 10, (0, 0), twice)), True)
        self.assertIs(shows_thrower(WARS, (WARS_GUN[0], 5, (0, 0), twice)), False)
        self.assertIs(shows_thrower(WARS, (WARS_GUN[0], 10, (0, 0), WARS_GUN[3])), False)


class TriedTest(ErrorTest):

    def assert_as_tried(self, rule, thrower, generations):
        """Whether a thrower is shown is what trying so many generations shows; returned."""
        core, period, move, thrown = thrower
        together = sorted([(x + move[0], y + move[1], state) for x, y, state in core]
                          + [cell for piece in thrown for cell in piece[0]])
        if len({cell[:2] for cell in core}) < len(core):
            return False
        tried = steps(rule, core, period) == tuple(together)
        tried = tried and naive_meeting(rule, (0, (), (thrower,)), generations) is None
        self.assertIs(shows_thrower(rule, thrower), tried)
        return tried


class NoThrowersTest(TriedTest):

    def test_a_core_that_becomes_something_else(self):
        for missing in GUN[0]:
            core = tuple(cell for cell in GUN[0] if cell != missing)
            self.assertIs(shows_thrower(LIFE, (core,) + GUN[1:]), False)
        self.assertIs(shows_thrower(LIFE, (GUN[0], 29) + GUN[2:]), False)
        self.assertIs(shows_thrower(LIFE, (GUN[0], 30, (1, 0), GUN[3])), False)
        self.assertIs(shows_thrower(LIFE, with_thrown(GUN, (moved_piece(GUN[3][0], (1, 1)),))), False)
        self.assertIs(shows_thrower(LIFE, with_thrown(GUN, GUN[3] + (moved_piece(RESTING, (90, 0)),))), False)
        self.assertIs(shows_thrower(LIFE, (REST, 1, (0, 0), (moved_piece(RESTING, (90, 0)),))), False)
        self.assertIs(shows_thrower(BRAIN, RAKE[:2] + ((-6, 0),) + RAKE[3:]), False)

    def test_what_is_thrown_must_be_a_piece(self):
        ship = GUN[3][0]
        for piece in ((ship[0], 3, (1, 1)), (ship[0], 4, (1, 0)), (ship[0], 4, (0, 0)), (ship[0][:4], 4, (1, 1))):
            self.assertIs(shows_thrower(LIFE, with_thrown(GUN, (piece,))), False)
        self.assertIs(shows_thrower(WARS, with_thrown(WARS_GUN, (WARS_GUN[3][0][:2] + ((0, 1),),))), False)

    def test_a_cell_in_common(self):
        # What rests in the core is told again as thrown, and what is thrown is told twice.
        core = with_rest(GUN, (90, 0))
        self.assertIs(shows_thrower(LIFE, core), True)
        self.assertIs(shows_thrower(LIFE, with_thrown(core, GUN[3] + (moved_piece(RESTING, (90, 0)),))), False)
        self.assertIs(shows_thrower(LIFE, with_thrown(GUN, GUN[3] + GUN[3])), False)

    def test_thrown_near_the_core_or_one_another_at_once(self):
        # The ring becomes itself and what rests within it, but that is near.
        rule = ((8,), (0, 1, 2, 3, 4, 5, 6, 7, 8), 2)
        ring = tuple((x, y, 1) for x in range(3) for y in range(3) if (x, y) != (1, 1))
        self.assertEqual(steps(rule, ring, 1), tuple(sorted(ring + ((1, 1, 1),))))
        self.assertIs(shows_thrower(rule, (ring, 1, (0, 0), ((((1, 1, 1),), 1, (0, 0)),))), False)

    def test_a_thrown_piece_hits_the_core_later(self):
        for away in (20, 40, 10 ** 20, 10 ** 58):
            self.assertIs(shows_thrower(LIFE, with_rest(GUN, (24 + away, 10 + away))), False)
            self.assertIs(shows_thrower(LIFE, with_rest(GUN, (35 + away, 10 + away))), True)
            self.assertIs(shows_thrower(LIFE, with_rest(GUN, (24 - away, 10 - away))), True)

    def test_a_thrown_piece_hits_another_part_of_a_core_that_travels(self):
        # Both parts of the core go up, and what the one throws down may hit the other one.
        found = {True: 0, False: 0}
        for right in range(-24, 25, 4):
            together = throwers_together(SLOW, moved_thrower(SLOW, (right, 40)))
            found[self.assert_as_tried(TRAIL_RULE, together, 80)] += 1
        self.assertGreater(min(found.values()), 2)

    def test_thrown_pieces_of_other_throws_meet(self):
        found = {True: 0, False: 0}
        for turn in range(8):
            together = throwers_together(GUN, moved_thrower(turned_thrower(GUN, turn), (90, 3)))
            found[self.assert_as_tried(LIFE, together, 250)] += 1
        self.assertGreater(min(found.values()), 1)
        for down in range(-60, -40, 4):
            left = moved_thrower(turned_thrower(WARS_GUN, 3), (30, down))
            self.assertIs(self.assert_as_tried(WARS, throwers_together(WARS_GUN, left), 140), False)

    def test_thrown_pieces_meet_far_away(self):
        left, right = turned_thrower(WARS_GUN, 3), turned_thrower(WARS_GUN, 1)
        for far in (10 ** 9, 10 ** 50):
            told = [shows_thrower(WARS, throwers_together(right, moved_thrower(left, (far, down))))
                    for down in range(-12, 13)]
            near = [shows_thrower(WARS, throwers_together(right, moved_thrower(left, (200, down))))
                    for down in range(-12, 13)]
            self.assertEqual(told, near)
            self.assertEqual(sorted(set(told)), [False, True])

    def test_a_later_piece_catches_up_an_elder_one(self):
        # TRAIL leaves behind what rests; what another one throws down from above gets there later, or ahead of it.
        for place in range(8):
            behind = moved_thrower(TRAIL, (-20 - place, -30))
            self.assertIs(self.assert_as_tried(TRAIL_RULE, throwers_together(TRAIL, behind), 80), False)
            ahead = moved_thrower(TRAIL, (49 + place, -30))
            self.assertIs(self.assert_as_tried(TRAIL_RULE, throwers_together(TRAIL, ahead), 80), True)
            far = moved_thrower(TRAIL, (-10 ** 30 - place, -10 ** 20))
            self.assertIs(shows_thrower(TRAIL_RULE, throwers_together(TRAIL, far)), False)

    def test_many_pairs_of_throwers(self):
        numbers = many_numbers(8)
        found = {True: 0, False: 0}
        for _ in range(40):
            other = turned_thrower(RAKE, 6) if next(numbers) % 2 == 0 else RAKE
            if other[2] != RAKE[2]:
                other = turned_thrower(other, 2)
            other = moved_thrower(other, (next(numbers) % 61 - 30, next(numbers) % 61 - 30))
            found[self.assert_as_tried(BRAIN, throwers_together(RAKE, other), 90)] += 1
        self.assertGreater(min(found.values()), 3)


class TooManyTest(TriedTest):

    def assert_too_many(self, rule, thrower):
        self.assert_error(TooMany, {"most": 6000}, shows_thrower, rule, thrower)

    def test_a_thrown_piece_and_elder_ones(self):
        # With the thrower's period 5, the product is the square of the period, or a fifth of it if 5 divides that.
        for period, judged in (
            (76, True), (77, True), (78, False), (165, True), (170, True), (175, False), (240, False),
        ):
            thrower = slowed_throws(WARS_GUN, period)
            self.assertIs(shows_piece(WARS, thrower[3][0]), True)
            if judged:
                self.assertIs(shows_thrower(WARS, thrower), True)
            else:
                self.assert_too_many(WARS, thrower)

    def test_a_thrown_piece_and_the_core(self):
        many = throwers_together(*ROW_OF_GUNS[:6])
        self.assertIs(shows_thrower(WARS, many), True)
        thrown = tuple(moved_piece(WARS_GUN[3][0], (0, -5 * throw)) for throw in range(6))
        slow = (WARS_GUN[0], 30, (0, 0), thrown)
        self.assertIs(shows_thrower(WARS, slow), True)
        # With 30 and 239 the least common multiple is 7170, ahead of anything else.
        self.assert_too_many(WARS, with_thrown(slow, (slowed(thrown[0], 239),) + thrown[1:]))

    def test_two_pieces_that_are_thrown_together(self):
        two = throwers_together(*ROW_OF_GUNS[:2])
        for one, other, judged in ((1, 77, True), (1, 78, False), (50, 50, True), (10, 60, True), (49, 35, False)):
            thrower = with_thrown(two, (slowed(two[3][0], one), slowed(two[3][1], other)))
            if judged:
                self.assertIs(shows_thrower(WARS, thrower), True)
            else:
                self.assert_too_many(WARS, thrower)

    def test_the_form_comes_first(self):
        slow = slowed_throws(WARS_GUN, 240)
        self.assert_too_many(WARS, slow)
        self.assertIs(shows_thrower(WARS, with_thrown(slow, slow[3] + (None,))), False)
        self.assertIs(shows_thrower(WARS, (slow[0], 0) + slow[2:]), False)
        growing = (((0, 0, 1),), 200, (0, 0))
        self.assert_error(TooMany, {"most": 3000}, shows_thrower, GROWING, growing + ((growing,),))
        self.assertIs(shows_thrower(GROWING, growing + ((growing, (REST, 241, (0, 0))),)), False)

    def test_states_come_ahead_of_thrown_pieces(self):
        growing = (((0, 0, 1),), 200, (0, 0))
        self.assertIs(shows_thrower(GROWING, (((0, 0, 2),), 200, (0, 0), (growing,))), False)
        self.assertIs(shows_thrower(GROWING, growing + (((((0, 0, 2),), 1, (0, 0)), growing),)), False)
        self.assert_error(
            TooMany, {"most": 3000}, shows_thrower, GROWING, growing + ((growing, (((0, 0, 2),), 1, (0, 0))),),
        )

    def test_thrown_pieces_come_ahead_of_steps(self):
        growing = (((0, 0, 1),), 200, (0, 0))
        self.assertIs(shows_thrower(GROWING, growing + (((REST[:3], 1, (0, 0)),),)), False)
        full = ((((0, 0, 1),), 1, (0, 0)),)
        self.assertIs(shows_thrower(GROWING, growing + (full,)), False)

    def test_steps_come_ahead_of_periods(self):
        slow = slowed_throws(WARS_GUN, 240)
        self.assertIs(shows_thrower(WARS, (slow[0], 4) + slow[2:]), False)
        self.assertIs(shows_thrower(WARS, with_thrown(slow, (moved_piece(slow[3][0], (0, 1)),))), False)

    def test_what_comes_first_decides(self):
        # The core is hit by the first one: that is seen ahead of the periods of elder ones.
        self.assertIs(shows_thrower(LIFE, slowed_throws(with_rest(GUN, (64, 50)), 59)), False)
        self.assert_too_many(LIFE, slowed_throws(with_rest(GUN, (-64, 50)), 59))

    def test_pieces_at_the_same_time_come_ahead_of_elder_ones(self):
        left = turned_thrower(WARS_GUN, 3)
        # The ones meet at 60 generations, the others are then 20 from where they would.
        for late, judged in ((0, True), (20, False)):
            from_place, to_place = left[3][0][0][0], (62 + late, -65)
            moved = moved_thrower(left, (to_place[0] - from_place[0], to_place[1] - from_place[1]))
            two = throwers_together(WARS_GUN, moved)
            self.assertIs(self.assert_as_tried(WARS, two, 200), False)
            thrower = with_thrown(two, (two[3][0], slowed(two[3][1], 78)))
            if judged:
                self.assertIs(shows_thrower(WARS, thrower), False)
            else:
                self.assert_too_many(WARS, thrower)

    def test_the_elder_one_counts_twice(self):
        apart = throwers_together(*ROW_OF_GUNS[:2])
        crossing = throwers_together(WARS_GUN, moved_thrower(turned_thrower(WARS_GUN, 3), (100, -60)))
        for two in (apart, crossing):
            first, second = slowed(two[3][0], 49), slowed(two[3][1], 35)
            # With 49 elder than 35 there are too many, with 35 elder than 49 there are not: that is looked at first.
            if two == crossing:
                self.assertIs(shows_thrower(WARS, with_thrown(two, (first, second))), False)
            else:
                self.assert_too_many(WARS, with_thrown(two, (first, second)))
            self.assert_too_many(WARS, with_thrown(two, (second, first)))

    def test_limits_of_steps(self):
        growing = (((0, 0, 1),), 200, (0, 0))
        self.assert_error(TooMany, {"most": 3000}, shows_thrower, GROWING, growing + ((growing,),))
        high = moved_thrower(WARS_GUN, (0, 6 - FAR))
        self.assertIs(shows_thrower(WARS, high), True)
        self.assert_error(BadBoard, {"index": None}, shows_thrower, WARS, moved_thrower(WARS_GUN, (0, 5 - FAR)))
        self.assert_error(BadBoard, {"index": None}, shows_thrower, WARS, slowed_throws(high, 3))


class WrongArgumentsTest(ErrorTest):

    def test_wrong_rules(self):
        for rule in NO_RULES:
            self.assert_error(BadRule, {}, shows_thrower, rule, GUN)
            self.assert_error(BadRule, {}, shows_thrower, rule, None)

    def test_values_that_are_no_throwers(self):
        for value in NO_TUPLES + ((), GUN[:3], GUN + ((),), list(GUN), (GUN,), RESTING, SHIPPING, RESTING + (RESTING,)):
            self.assertIs(shows_thrower(LIFE, value), False)
        for value, _ in NO_BOARDS:
            self.assertIs(shows_thrower(LIFE, (value,) + GUN[1:]), False)
        for value in NO_INTEGERS + (0, 241, -30, 30 * 10 ** 60):
            self.assertIs(shows_thrower(LIFE, (GUN[0], value) + GUN[2:]), False)
        for value in NO_PLACES:
            self.assertIs(shows_thrower(LIFE, GUN[:2] + (value, GUN[3])), False)
        for value in NO_TUPLES + ((), list(GUN[3]), GUN[3][0], GUN[3] * 7, (GUN,)):
            self.assertIs(shows_thrower(LIFE, with_thrown(GUN, value)), False)
        for value in NO_TUPLES + ((), GUN[3][0][:2], list(GUN[3][0]), (GUN[3][0][0], 0, (1, 1)), ((), 4, (1, 1))):
            self.assertIs(shows_thrower(LIFE, with_thrown(GUN, (value,))), False)

    def test_states_that_the_rule_has_not(self):
        self.assertIs(shows_thrower(((2,), (3, 4, 5), 3), WARS_GUN), False)
        self.assertIs(shows_thrower(BRAIN, WARS_GUN), False)
        self.assertIs(shows_thrower(LIFE, (GUN[0] + ((90, 0, 2),),) + GUN[1:]), False)


if __name__ == "__main__":
    unittest.main()
