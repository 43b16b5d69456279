"""Point 19: what came before a picture."""

import itertools
import unittest

from fateboards import befores
from fateboards.befores import befores_count, first_before
from fateboards.columns import cells_of, column_of
from fateboards.errors import BadNumber, BadPicture, BadRule
from tests.helpers import BRAIN, LIFE, NO_INTEGERS, NO_RULES, NO_TUPLES, STAYING, WARS, ErrorTest, many_numbers

ALL = (1, 2, 3, 4, 5, 6, 7, 8)
DYING = ((), (), 2)
NEVER = (ALL, (), 2)
FILLING = (ALL, (0,) + ALL, 2)
RULES = (
    LIFE, STAYING, DYING, NEVER, FILLING, ((1,), (), 2), ((2,), (0,), 2), ((3, 6), (2, 3), 2), ((), (2, 3), 2),
    ((1, 3, 5, 7), (0, 2, 4, 6, 8), 2),
)

NO_PICTURES = NO_TUPLES + (
    (), ((),), ((), ()), ((0,), ()), ((), (0,)), ((0,), (0, 1)), ((0, 1), (0,)), ((0, 0, 0, 0),), ((0,), (0,), (0, 0)),
    [(0,)], ([0],), ((0,), [0]), ("0",), ("01", "10"), (0,), (0, 1), ((0,), 1), (((0,),),), ((2,),), ((-1,),),
    ((0, 2),), ((0,), (3,)), ((0,),) * 31, ((1, 0, 1),) * 31, ((0, 0, 0, 0),) * 30, ({0: 1},), ((10 ** 60,),),
) + tuple(((value,),) for value in NO_INTEGERS) + tuple(((0,), (value,)) for value in NO_INTEGERS) + tuple(
    ((0, 1), value) for value in NO_TUPLES
)


def wider_pictures(wide, high):
    """All pictures of this size, ascending."""
    columns = list(itertools.product((0, 1), repeat=high))
    return itertools.product(columns, repeat=wide)


def becomes(rule, wider):
    """The picture that a wider one becomes."""
    return tuple(
        tuple(cell_behind(rule, wider, x, y) for y in range(1, len(wider[0]) - 1)) for x in range(1, len(wider) - 1)
    )


def cell_behind(rule, wider, x, y):
    """What a step makes of a cell of a picture."""
    many = sum(sum(column[y - 1:y + 2]) for column in wider[x - 1:x + 2]) - wider[x][y]
    return int(many in (rule[1] if wider[x][y] else rule[0]))


def becoming(rule, wide, high):
    """For each picture of this size, all wider ones that become it, ascending."""
    found = {}
    for wider in wider_pictures(wide + 2, high + 2):
        found.setdefault(becomes(rule, wider), []).append(wider)
    return found


def upside_down(picture):
    return tuple(column[::-1] for column in picture)


def laid_on_its_side(picture):
    return tuple(zip(*picture))


def picture_at_random(numbers, wide, high):
    return tuple(tuple(next(numbers) % 2 for _ in range(high)) for _ in range(wide))


class InterfaceTest(unittest.TestCase):

    def test_functions_are_defined_in_this_file(self):
        for name in ("befores_count", "first_before"):
            self.assertEqual(getattr(befores, name).__module__, "fateboards.befores")

    def test_example(self):
        self.assertEqual(befores_count(LIFE, ((1,),)), 140)
        self.assertEqual(first_before(LIFE, ((1,),)), ((0, 0, 0), (0, 0, 0), (1, 1, 1)))
        self.assertEqual(befores_count(LIFE, ((0,),)), 372)


class SmallPicturesTest(unittest.TestCase):

    def assert_as_tried(self, rule, wide, high):
        tried = becoming(rule, wide, high)
        for picture in wider_pictures(wide, high):
            wider = tried.get(picture, [])
            self.assertEqual(befores_count(rule, picture), len(wider), (rule, picture))
            self.assertEqual(first_before(rule, picture), wider[0] if wider else None, (rule, picture))

    def test_one_cell(self):
        for rule in RULES:
            self.assert_as_tried(rule, 1, 1)

    def test_two_cells(self):
        for rule in RULES[:4] + RULES[6:8]:
            self.assert_as_tried(rule, 1, 2)
            self.assert_as_tried(rule, 2, 1)

    def test_three_cells(self):
        self.assert_as_tried(LIFE, 1, 3)
        self.assert_as_tried(LIFE, 3, 1)

    def test_four_cells(self):
        self.assert_as_tried(((3, 6), (2, 3), 2), 2, 2)


class CountTest(unittest.TestCase):

    def test_all_pictures_together(self):
        # Each wider picture becomes just one.
        for rule in RULES:
            for wide, high in ((1, 3), (2, 2), (5, 1)) + (((3, 2), (2, 3)) if rule == LIFE else ()):
                many = sum(befores_count(rule, picture) for picture in wider_pictures(wide, high))
                self.assertEqual(many, 2 ** ((wide + 2) * (high + 2)))

    def test_turned(self):
        numbers = many_numbers(40)
        for _ in range(12):
            rule = RULES[next(numbers) % len(RULES)]
            wide, high = 1 + next(numbers) % 3, 1 + next(numbers) % 3
            picture = picture_at_random(numbers, wide, high)
            many = befores_count(rule, picture)
            for other in (picture[::-1], upside_down(picture), laid_on_its_side(picture)):
                self.assertEqual(befores_count(rule, other), many)

    def test_30_columns(self):
        numbers = many_numbers(41)
        for rule in RULES:
            for high in (1, 2, 3):
                picture = picture_at_random(numbers, 30, high)
                many = befores_count(rule, picture)
                self.assertEqual(befores_count(rule, picture[::-1]), many)
                self.assertEqual(befores_count(rule, upside_down(picture)), many)
                self.assertEqual(many > 0, first_before(rule, picture) is not None)

    def test_rules_of_which_the_number_is_known(self):
        # A cell whose neighbours leave it alone is what it was, and those around do not matter.
        self.assertEqual(befores_count(STAYING, ((1, 1, 1),) * 30), 2 ** (32 * 5 - 90))
        self.assertEqual(befores_count(STAYING, ((0, 1, 0),) * 30), 2 ** (32 * 5 - 90))
        self.assertEqual(befores_count(DYING, ((0, 0, 0),) * 30), 2 ** (32 * 5))
        self.assertEqual(befores_count(DYING, ((0, 0, 0),) * 29 + ((0, 0, 1),)), 0)
        self.assertEqual(befores_count(FILLING, ((0, 0, 0),) * 30), 1)
        # With odd numbers alone each cell's step turns with each of its neighbours: one in 2 ** 90.
        self.assertEqual(befores_count(RULES[-1], ((0, 1, 1),) * 30), 2 ** (32 * 5 - 90))

    def test_pictures_that_nothing_becomes(self):
        for rule, picture in (
            (DYING, ((1,),)), (DYING, ((0,),) * 29 + ((1,),)), (DYING, ((0, 0, 1),) + ((0, 0, 0),) * 29),
            (FILLING, ((0, 0, 0), (0, 1, 0), (0, 0, 0))), (((), (8,), 2), ((1, 0, 1),)),
            (((), (0,), 2), ((0, 0), (0, 1), (1, 0)) * 10),
        ):
            self.assertEqual(befores_count(rule, picture), 0, (rule, picture))
            self.assertIsNone(first_before(rule, picture))


class FirstTest(unittest.TestCase):

    def test_it_becomes_the_picture(self):
        numbers = many_numbers(42)
        found = 0
        for rule in RULES:
            for wide, high in ((30, 1), (30, 2), (30, 3), (7, 3), (1, 2), (2, 3)):
                picture = picture_at_random(numbers, wide, high)
                wider = first_before(rule, picture)
                if wider is not None:
                    self.assertEqual((len(wider), {len(column) for column in wider}), (wide + 2, {high + 2}))
                    self.assertEqual(becomes(rule, wider), picture)
                    found += 1
        self.assertGreater(found, 20)

    def test_no_lesser_one_becomes_the_picture(self):
        # A lesser one has the same first columns, and then a lesser one: the picture's first columns tell that.
        numbers = many_numbers(43)
        for _ in range(6):
            picture = picture_at_random(numbers, 2, 1)
            tried = next(wider for wider in wider_pictures(4, 3) if becomes(LIFE, wider) == picture)
            self.assertEqual(first_before(LIFE, picture), tried)
        for rule in (LIFE, ((3, 6), (2, 3), 2)):
            self.assertEqual(first_before(rule, ((0, 0, 0),) * 30), ((0,) * 5,) * 32)

    def test_cells_are_integers(self):
        wider = first_before(LIFE, ((1, 0, 1), (0, 1, 1)))
        self.assertEqual({type(cell) for column in wider for cell in column}, {int})
        self.assertEqual({type(column) for column in wider} | {type(wider)}, {tuple})


class ErrorsTest(ErrorTest):

    def test_wrong_arguments(self):
        rules = [(BadRule, {}, value) for value in NO_RULES]
        rules += [(BadNumber, {}, rule) for rule in (BRAIN, WARS, ((), (), 6), ((3,), (2, 3), 3))]
        pictures = [(BadPicture, {}, value) for value in NO_PICTURES]
        for call in (befores_count, first_before):
            self.assert_arguments(call, (LIFE, ((1,),)), (rules, pictures))

    def test_1_to_30_columns_and_1_to_3_rows(self):
        for wide, high in itertools.product((1, 30), (1, 2, 3)):
            picture = ((1,) + (0,) * (high - 1),) * wide
            self.assertEqual(befores_count(STAYING, picture), 2 ** ((wide + 2) * (high + 2) - wide * high))
        for picture in (((0,),) * 31, ((0, 0, 0, 0),), ()):
            for call in (befores_count, first_before):
                self.assert_error(BadPicture, {}, call, STAYING, picture)


class ColumnsTest(unittest.TestCase):

    def test_columns_are_ordered_as_their_cells(self):
        for many in range(1, 6):
            cells = list(itertools.product((0, 1), repeat=many))
            self.assertEqual([column_of(column) for column in cells], list(range(2 ** many)))
            self.assertEqual([cells_of(column, many) for column in range(2 ** many)], cells)


if __name__ == "__main__":
    unittest.main()
