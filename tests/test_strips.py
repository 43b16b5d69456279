"""Point 20: how many boards rest in strips."""

import unittest

from fateboards import strips
from fateboards.errors import BadNumber, BadRule
from fateboards.recurrences import PRIME, far_term, shortest_recurrence
from fateboards.searches import stills_in_box
from fateboards.strips import stills_far, stills_in_strip
from tests.helpers import BRAIN, FAR, GROWING, LIFE, NO_RULES, STAYING, WARS, ErrorTest, many_numbers, wrong_numbers
from tests.naive import naive_step

ALL = (1, 2, 3, 4, 5, 6, 7, 8)
RULES = (
    LIFE, BRAIN, WARS, STAYING, GROWING, ((), (), 2), ((), (), 6), ((1,), (0,), 2), ((2,), (0, 1, 2), 6),
    ((), (0, 2, 4), 3), ((3, 6), (2, 3), 2), ((1, 2, 3), (2, 3, 4, 5), 4), ((5,), (1, 2, 3, 4, 5, 6), 2),
    (ALL, (0,) + ALL, 2), ((4, 6, 8), (0,) + ALL, 2),
)


def number_tried(rule, high, wide):
    """How many boards rest in a strip, each of them looked at."""
    cells = [(x, y, 1) for x in range(wide) for y in range(high)]
    many = 0
    for number in range(2 ** len(cells)):
        board = tuple(cell for index, cell in enumerate(cells) if number >> index & 1)
        many += naive_step(rule, board) == board
    return many


def number_by_squaring(rule, high, wide):
    """What the number leaves divided by PRIME, by the powers of a matrix of pairs of columns."""
    size = 2 ** high
    fitting = [[0] * size ** 2 for _ in range(size ** 2)]
    for left in range(size):
        for middle in range(size):
            for right in range(size):
                if rests(rule, high, (left, middle, right)):
                    fitting[left * size + middle][middle * size + right] = 1
    row = [1] + [0] * (size ** 2 - 1)
    often = wide + 2
    while often > 0:
        if often % 2 == 1:
            row = times([row], fitting)[0]
        fitting = times(fitting, fitting)
        often //= 2
    return row[0]


def times(one, other):
    """The product of two matrices."""
    columns = list(zip(*other))
    return [[sum(a * b for a, b in zip(row, column) if a and b) % PRIME for column in columns] for row in one]


def rests(rule, high, columns):
    """Whether the middle one of three columns rests, with what is above and below it."""
    cells = [[column >> row & 1 if 0 <= row < high else 0 for row in range(-2, high + 2)] for column in columns]
    for row in range(1, high + 3):
        alive = cells[1][row]
        many = sum(sum(column[row - 1:row + 2]) for column in cells) - alive
        if int(many in (rule[1] if alive else rule[0])) != alive:
            return False
    return True


class InterfaceTest(unittest.TestCase):

    def test_functions_are_defined_in_this_file(self):
        for name in ("stills_in_strip", "stills_far"):
            self.assertEqual(getattr(strips, name).__module__, "fateboards.strips")

    def test_example(self):
        self.assertEqual(
            [stills_in_strip(LIFE, 2, wide) for wide in range(7)] + [stills_far(LIFE, 2, 6)],
            [1, 1, 2, 3, 6, 10, 15, 15],
        )

    def test_the_divisor(self):
        self.assertEqual(PRIME, 2 ** 61 - 1)


class StillsInStripTest(unittest.TestCase):

    def test_short_strips(self):
        for rule in RULES:
            for high, wide in ((1, 0), (1, 1), (1, 2), (1, 6), (2, 0), (2, 1), (2, 2), (2, 4), (3, 0), (3, 1), (3, 3)):
                self.assertEqual(
                    stills_in_strip(rule, high, wide), number_tried(rule, high, wide), (rule, high, wide)
                )

    def test_strips_of_12_cells(self):
        for rule in (LIFE, ((5,), (1, 2, 3, 4, 5, 6), 2)):
            for high, wide in ((1, 12), (2, 6), (3, 4)):
                self.assertEqual(stills_in_strip(rule, high, wide), number_tried(rule, high, wide))

    def test_as_the_boxes_in_a_strip(self):
        # Each board that rests, but for the empty one, has one box at one place in the strip.
        for rule in (LIFE, STAYING, ((2,), (0, 1, 2), 6)):
            for high, wide in ((2, 6), (3, 4)):
                many = 1
                for right in range(1, wide + 1):
                    for down in range(1, high + 1):
                        places = (wide - right + 1) * (high - down + 1)
                        many += places * len(stills_in_box(rule, right, down))
                self.assertEqual(stills_in_strip(rule, high, wide), many)

    def test_no_length(self):
        for rule in RULES:
            for high in (1, 2, 3):
                self.assertEqual(stills_in_strip(rule, high, 0), 1)
                self.assertEqual(stills_far(rule, high, 0), 1)

    def test_rules_of_which_the_number_is_known(self):
        for high in (1, 2, 3):
            for wide in (0, 1, 7, 200):
                self.assertEqual(stills_in_strip(STAYING, high, wide), 2 ** (high * wide))
                self.assertEqual(stills_in_strip(((), (), 2), high, wide), 1)
                self.assertEqual(stills_in_strip((ALL, (0,) + ALL, 2), high, wide), 1)
        # In one row, cells that stay alone without births: no two of them beside one another.
        before, now = 1, 2
        for wide in range(1, 201):
            self.assertEqual(stills_in_strip(((), (0,), 2), 1, wide), now)
            before, now = now, before + now

    def test_strips_turned(self):
        for rule in RULES:
            for one, other in ((1, 2), (1, 3), (2, 3)):
                self.assertEqual(stills_in_strip(rule, one, other), stills_in_strip(rule, other, one))


class StillsFarTest(unittest.TestCase):

    def test_as_short_strips(self):
        for rule in RULES:
            for high in (1, 2, 3):
                for wide in tuple(range(0, 40, 7)) + (127, 128, 129, 199, 200):
                    told = stills_in_strip(rule, high, wide) % PRIME
                    self.assertEqual(stills_far(rule, high, wide), told, (rule, high, wide))

    def test_all_lengths_to_200(self):
        for high in (1, 2, 3):
            for wide in range(201):
                self.assertEqual(stills_far(LIFE, high, wide), stills_in_strip(LIFE, high, wide) % PRIME)

    def test_far_lengths(self):
        for rule in (LIFE, ((5,), (1, 2, 3, 4, 5, 6), 2), ((), (0, 2, 4), 3)):
            for high, lengths in ((1, (201, 10 ** 9, FAR)), (2, (201, 10 ** 18 + 7, FAR - 1, FAR)), (3, (300, 5000))):
                for wide in lengths:
                    self.assertEqual(stills_far(rule, high, wide), number_by_squaring(rule, high, wide))

    def test_the_farthest_of_height_3(self):
        self.assertEqual(stills_far(LIFE, 3, FAR), number_by_squaring(LIFE, 3, FAR))

    def test_rules_of_which_the_number_is_known(self):
        for high in (1, 2, 3):
            for wide in (61, 10 ** 30, FAR - 1, FAR):
                # 2 ** 61 leaves 1.
                self.assertEqual(stills_far(STAYING, high, wide), 2 ** (high * wide % 61))
                self.assertEqual(stills_far(((), (), 6), high, wide), 1)


class ErrorsTest(ErrorTest):

    def test_wrong_arguments(self):
        rules = [(BadRule, {}, value) for value in NO_RULES]
        heights = [(BadNumber, {}, value) for value in wrong_numbers(1, 3)]
        for call, most in ((stills_in_strip, 200), (stills_far, FAR)):
            lengths = [(BadNumber, {}, value) for value in wrong_numbers(0, most)]
            self.assert_arguments(call, (LIFE, 2, 5), (rules, heights, lengths))
        self.assertEqual(stills_far(LIFE, 1, 201), 1)


class RecurrencesTest(unittest.TestCase):

    def test_shortest_recurrences(self):
        for terms, recurrence in (
            ([1, 1, 2, 3, 5, 8, 13, 21], [1, 1]), ([1, 2, 4, 8], [2]), ([7, 7, 7, 7], [1]), ([0, 0, 0, 0], []),
            ([0, 1, 2, 3, 4, 5], [2, PRIME - 1]), ([0, 0, 1, 1, 2, 4, 7, 13, 24, 44], [1, 1, 1]),
        ):
            self.assertEqual(shortest_recurrence(terms), recurrence)

    def test_far_terms(self):
        numbers = many_numbers(50)
        for _ in range(60):
            many = 1 + next(numbers) % 6
            recurrence = [next(numbers) % 5 for _ in range(many)]
            terms = [next(numbers) % 9 for _ in range(many)]
            while len(terms) < 200:
                terms.append(sum(share * terms[-1 - back] for back, share in enumerate(recurrence)))
            for index in (0, 1, many, 2 * many - 1, 2 * many, 2 * many + 1, 63, 150, 199):
                self.assertEqual(far_term(terms[:2 * many], index), terms[index] % PRIME, (recurrence, terms, index))


if __name__ == "__main__":
    unittest.main()
