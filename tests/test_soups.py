"""Point 21: soups, and what becomes of many of them."""

import unittest

from fateboards import soups
from fateboards.errors import BadNumber, BadRule, TooMany
from fateboards.finders import find_fate
from fateboards.pieces import form_of
from fateboards.searches import census
from fateboards.soups import soup, tally
from tests.helpers import BRAIN, GROWING, LIFE, NO_RULES, REST, STAYING, WARS, ErrorTest, board_of, wrong_numbers

LAST_SEED = 2147483647
HIVE = board_of(".aa", "a..a", ".aa")


def soup_tried(seed, wide, high):
    """The soup of a seed, number by number."""
    cells = []
    number = seed
    for at in range(wide * high):
        number = (1103515245 * number + 12345) % (1 << 31)
        if number >> 16 & 1:
            cells.append((at // high, at % high, 1))
    return tuple(cells)


def tally_tried(rule, seeds, wide, high, generations, most):
    """The tally of some soups, as the document puts it together."""
    papers = [find_fate(rule, soup(seed, wide, high), generations, most) for seed in range(seeds)]
    papers = [paper for paper in papers if paper is not None]
    return (len(papers), census(rule, tuple(piece for paper in papers for piece in paper[1])))


class InterfaceTest(unittest.TestCase):

    def test_functions_are_defined_in_this_file(self):
        for name in ("soup", "tally"):
            self.assertEqual(getattr(soups, name).__module__, "fateboards.soups")

    def test_example(self):
        self.assertEqual(soup(7, 2, 2), ())
        self.assertEqual(tally(LIFE, 3, 2, 2, 5, 2), (3, ()))


class SoupTest(ErrorTest):

    def test_the_first_cells(self):
        # 12345, then 3554416254 % 2 ** 31 = 1406932606, and so on: divided by 65536 they are 0, 21468, 9988, 22117.
        self.assertEqual(soup(0, 2, 2), ((1, 1, 1),))
        self.assertEqual(soup(0, 4, 1), ((3, 0, 1),))
        self.assertEqual(soup(0, 1, 4), ((0, 3, 1),))

    def test_as_tried(self):
        for seed in (0, 1, 2, 39, 12345, 2 ** 30, LAST_SEED - 1, LAST_SEED):
            for wide, high in ((1, 1), (1, 16), (16, 1), (3, 5), (5, 3), (16, 16)):
                self.assertEqual(soup(seed, wide, high), soup_tried(seed, wide, high))

    def test_seeds_0_and_2147483647(self):
        self.assertEqual(len(soup(0, 16, 16)), len(soup_tried(0, 16, 16)))
        self.assertNotEqual(soup(0, 16, 16), soup(LAST_SEED, 16, 16))
        for seed in (-1, LAST_SEED + 1):
            self.assert_error(BadNumber, {}, soup, seed, 2, 2)

    def test_sides_1_and_16(self):
        for seed in range(20):
            self.assertIn(soup(seed, 1, 1), ((), ((0, 0, 1),)))
            large = soup(seed, 16, 16)
            self.assertTrue(90 < len(large) < 166)
            self.assertTrue(all(0 <= x < 16 and 0 <= y < 16 and state == 1 for x, y, state in large))
            # The numbers go on from column to column.
            self.assertEqual(tuple(cell for cell in large if cell[0] < 3), soup(seed, 3, 16))

    def test_wrong_arguments(self):
        sides = [(BadNumber, {}, value) for value in wrong_numbers(1, 16)]
        self.assert_arguments(soup, (3, 4, 5), (
            [(BadNumber, {}, value) for value in wrong_numbers(0, LAST_SEED)], sides, sides,
        ))


class TallyTest(ErrorTest):

    def test_as_tried(self):
        for rule in (LIFE, ((3, 6), (2, 3), 2), BRAIN, STAYING, ((2,), (3, 4), 4)):
            for seeds, wide, high, generations, most in (
                (1, 4, 4, 30, 4), (6, 6, 3, 40, 12), (5, 5, 5, 60, 30), (9, 1, 9, 20, 2), (4, 8, 8, 12, 2),
            ):
                arguments = (rule, seeds, wide, high, generations, most)
                try:
                    tried = tally_tried(*arguments)
                except TooMany as error:
                    self.assert_error(TooMany, {"most": error.most}, tally, *arguments)
                else:
                    self.assertEqual(tally(*arguments), tried)

    def test_no_seeds(self):
        for rule in (LIFE, BRAIN, GROWING):
            self.assertEqual(tally(rule, 0, 16, 16, 600, 240), (0, ()))

    def test_40_seeds(self):
        many, counts = tally(LIFE, 40, 5, 5, 150, 30)
        self.assertEqual((many, counts), tally_tried(LIFE, 40, 5, 5, 150, 30))
        self.assertGreater(many, 20)
        forms = [form for form, _ in counts]
        self.assertEqual(forms, sorted(forms))
        self.assertIn(REST, forms)
        self.assertIn(form_of(LIFE, (HIVE, 1, (0, 0))), forms)
        self.assert_error(BadNumber, {}, tally, LIFE, 41, 5, 5, 150, 30)

    def test_soups_without_a_fate_do_not_count(self):
        self.assertEqual(tally(LIFE, 10, 16, 16, 0, 1), (0, ()))
        some, counts = tally(LIFE, 12, 8, 8, 30, 30)
        self.assertTrue(0 < some < 12)
        self.assertEqual((some, counts), tally_tried(LIFE, 12, 8, 8, 30, 30))
        none = [seed for seed in range(12) if find_fate(LIFE, soup(seed, 8, 8), 30, 30) is None]
        self.assertEqual(len(none), 12 - some)

    def test_states_and_dying_soups(self):
        # Without births and stays all soups are empty in the end.
        self.assertEqual(tally(((), (), 6), 40, 16, 16, 5, 1), (40, ()))
        self.assertEqual(tally(((), (), 6), 40, 16, 16, 4, 1)[0], len([
            seed for seed in range(40) if soup(seed, 16, 16) == ()
        ]))

    def test_too_many(self):
        self.assert_error(TooMany, {"most": 3000}, tally, GROWING, 3, 16, 16, 600, 240)
        self.assertEqual(tally(GROWING, 3, 16, 16, 0, 1), (0, ()))
        self.assert_error(BadNumber, {}, tally, GROWING, 3, 16, 16, 600, 241)

    def test_wrong_arguments(self):
        sides = [(BadNumber, {}, value) for value in wrong_numbers(1, 16)]
        self.assert_arguments(tally, (LIFE, 3, 4, 5, 9, 9), (
            [(BadRule, {}, value) for value in NO_RULES],
            [(BadNumber, {}, value) for value in wrong_numbers(0, 40)],
            sides, sides,
            [(BadNumber, {}, value) for value in wrong_numbers(0, 600)],
            [(BadNumber, {}, value) for value in wrong_numbers(1, 240)],
        ))
        self.assertEqual(tally(WARS, 1, 1, 1, 600, 1), (1, ()))


if __name__ == "__main__":
    unittest.main()
