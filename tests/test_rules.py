"""Point 2: rules and their texts."""

import itertools
import unittest

from fateboards import rules
from fateboards.errors import BadRule, InvalidText, NotText
from fateboards.rules import read_rule, write_rule
from tests.helpers import NO_INTEGERS, NO_TEXTS, NO_TUPLES, ErrorTest

RULES_AND_TEXTS = (
    (((3,), (2, 3), 2), "births 3 stays 2 3 states 2"),
    (((2,), (), 3), "births 2 stays none states 3"),
    (((), (0,), 4), "births none stays 0 states 4"),
    (((), (), 6), "births none stays none states 6"),
    (((1,), (8,), 5), "births 1 stays 8 states 5"),
    (((8,), (0, 8), 2), "births 8 stays 0 8 states 2"),
    (
        ((1, 2, 3, 4, 5, 6, 7, 8), (0, 1, 2, 3, 4, 5, 6, 7, 8), 6),
        "births 1 2 3 4 5 6 7 8 stays 0 1 2 3 4 5 6 7 8 states 6",
    ),
)


def all_counts(least):
    """All strictly ascending tuples of integers from least to 8."""
    numbers = range(least, 9)
    return [counts for many in range(10) for counts in itertools.combinations(numbers, many)]


class InterfaceTest(unittest.TestCase):

    def test_functions_are_defined_in_this_file(self):
        for name in ("write_rule", "read_rule"):
            self.assertEqual(getattr(rules, name).__module__, "fateboards.rules")


class WriteRuleTest(ErrorTest):

    def test_texts_of_rules(self):
        for rule, text in RULES_AND_TEXTS:
            with self.subTest(rule=rule):
                self.assertEqual(write_rule(rule), text)

    def test_all_numbers_of_states(self):
        for states in (2, 3, 4, 5, 6):
            self.assertEqual(write_rule(((3,), (2, 3), states)), f"births 3 stays 2 3 states {states}")

    def test_values_that_are_no_tuples(self):
        for value in NO_TUPLES + ("births 3 stays 2 3 states 2", [(3,), (2, 3), 2]):
            self.assert_error(BadRule, {}, write_rule, value)

    def test_tuples_of_other_lengths(self):
        for value in ((), ((3,),), ((3,), (2, 3)), ((3,), (2, 3), 2, 2), ((3,), (2, 3), 2, ())):
            self.assert_error(BadRule, {}, write_rule, value)

    def test_births_and_stays_that_are_no_tuples(self):
        for value in NO_TUPLES + ([3], [2, 3], "3", 3):
            self.assert_error(BadRule, {}, write_rule, (value, (2, 3), 2))
            self.assert_error(BadRule, {}, write_rule, ((3,), value, 2))

    def test_births_are_from_1_to_8(self):
        for births in ((0,), (0, 3), (-1,), (9,), (3, 9), (8, 9), (10 ** 60,)):
            self.assert_error(BadRule, {}, write_rule, (births, (2, 3), 2))

    def test_stays_are_from_0_to_8(self):
        for stays in ((-1,), (-1, 0), (9,), (2, 9), (8, 9), (-10 ** 60,)):
            self.assert_error(BadRule, {}, write_rule, ((3,), stays, 2))

    def test_births_and_stays_ascend_strictly(self):
        for counts in ((3, 3), (3, 2), (1, 2, 2), (1, 3, 2), (2, 1, 3), (8, 8), (1, 1)):
            self.assert_error(BadRule, {}, write_rule, (counts, (2, 3), 2))
            self.assert_error(BadRule, {}, write_rule, ((3,), counts, 2))

    def test_births_and_stays_hold_integers_alone(self):
        for value in NO_INTEGERS:
            self.assert_error(BadRule, {}, write_rule, ((value,), (2, 3), 2))
            self.assert_error(BadRule, {}, write_rule, ((value, 3), (2, 3), 2))
            self.assert_error(BadRule, {}, write_rule, ((3,), (value,), 2))
            self.assert_error(BadRule, {}, write_rule, ((3,), (0, value), 2))

    def test_states_are_from_2_to_6(self):
        for states in (1, 0, -2, 7, 10 ** 60) + NO_INTEGERS:
            self.assert_error(BadRule, {}, write_rule, ((3,), (2, 3), states))


class ReadRuleTest(ErrorTest):

    def assert_place(self, text, place):
        self.assert_error(InvalidText, {"place": place}, read_rule, text)

    def test_rules_of_texts(self):
        for rule, text in RULES_AND_TEXTS:
            with self.subTest(text=text):
                self.assertEqual(read_rule(text), rule)

    def test_what_is_written_is_read(self):
        for births in all_counts(1):
            rule = (births, (0, 8), 4)
            self.assertEqual(read_rule(write_rule(rule)), rule)
        for stays in all_counts(0):
            rule = ((2, 5), stays, 3)
            self.assertEqual(read_rule(write_rule(rule)), rule)
        for states in (2, 3, 4, 5, 6):
            self.assertEqual(read_rule(f"births 3 stays 2 3 states {states}"), ((3,), (2, 3), states))

    def test_kinds_of_what_is_read(self):
        births, stays, states = read_rule("births 3 stays none states 2")
        self.assertEqual([type(births), type(births[0]), type(stays), type(states)], [tuple, int, tuple, int])

    def test_values_that_are_no_texts(self):
        for value in NO_TEXTS + (((3,), (2, 3), 2),):
            self.assert_error(NotText, {}, read_rule, value)

    def test_texts_that_end_too_soon(self):
        words = "births 1 3 stays 0 2 states 2".split(" ")
        for many in range(len(words)):
            text = " ".join(words[:many])
            self.assert_place(text, len(text))
        for text in ("births none", "births none stays", "births none stays none", "births none stays none states"):
            self.assert_place(text, len(text))

    def test_a_space_at_the_end(self):
        whole = "births 3 stays 2 3 states 2 "
        for text in (whole, "births ", "births 3 ", "births none ", "births 3 stays 2 states "):
            self.assert_place(text, len(text))

    def test_a_space_at_the_beginning(self):
        for text in (" births 3 stays 2 3 states 2", " births", " x"):
            self.assert_place(text, 0)

    def test_a_space_too_many(self):
        self.assert_place("births  3 stays 2 3 states 2", 7)
        self.assert_place("births 3  stays 2 3 states 2", 9)
        self.assert_place("births 3 stays  2 3 states 2", 15)
        self.assert_place("births 3 stays 2  3 states 2", 17)
        self.assert_place("births 3 stays 2 3  states 2", 19)
        self.assert_place("births 3 stays 2 3 states  2", 26)
        self.assert_place("births   3 stays 2 3 states 2", 7)

    def test_words_that_cannot_stand_first(self):
        for word in ("Births", "birth", "birthss", "stays", "3", "none", "births\t3", "births3", "\nbirths"):
            self.assert_place(f"{word} 3 stays 2 3 states 2", 0)

    def test_words_that_cannot_stand_as_births(self):
        for word in ("0", "9", "10", "12", "-1", "+3", "03", "3.", "3,4", "x", "stays", "states", "births", "None"):
            self.assert_place(f"births {word} stays 2 3 states 2", 7)
        self.assert_place("births stays 2 3 states 2", 7)
        self.assert_place("births 3 2 stays none states 2", 9)
        self.assert_place("births 3 3 stays none states 2", 9)
        self.assert_place("births 1 8 8 stays none states 2", 11)
        self.assert_place("births 8 9 stays none states 2", 9)
        self.assert_place("births 3 none stays none states 2", 9)
        self.assert_place("births none 3 stays none states 2", 12)
        self.assert_place("births none none stays none states 2", 12)
        self.assert_place("births 3 states 2", 9)
        self.assert_place("births none states 2", 12)

    def test_words_that_cannot_stand_as_stays(self):
        for word in ("9", "10", "01", "00", "-0", "+2", "23", "x", "states", "stays", "births", "NONE"):
            self.assert_place(f"births 3 stays {word} states 2", 15)
        self.assert_place("births 3 stays 3 2 states 2", 17)
        self.assert_place("births 3 stays 0 0 states 2", 17)
        self.assert_place("births 3 stays 0 8 8 states 2", 19)
        self.assert_place("births 3 stays 2 none states 2", 17)
        self.assert_place("births 3 stays none 2 states 2", 20)
        self.assert_place("births 3 stays 2 stays 3 states 2", 17)
        self.assert_place("births 3 stays none stays 2", 20)

    def test_words_that_cannot_stand_as_states(self):
        for word in ("0", "1", "7", "8", "10", "22", "02", "+2", "x", "none", "states", "2\n"):
            self.assert_place(f"births 3 stays 2 3 states {word}", 26)

    def test_words_behind_the_last_one(self):
        for word in ("3", "2", "x", "births", "none", "states"):
            self.assert_place(f"births 3 stays 2 3 states 2 {word}", 28)
        self.assert_place("births 3 stays 2 3 states 2 x y", 28)

    def test_other_signs_than_spaces_do_not_part_words(self):
        for sign in ("\t", "\n", ",", "_", "\u00a0"):
            self.assert_place(f"births 3 stays 2{sign}3 states 2", 15)

    def test_figures_of_other_scripts_are_no_figures(self):
        self.assert_place("births \u0663 stays 2 3 states 2", 7)
        self.assert_place("births 3 stays \u00b2 states 2", 15)

    def test_the_first_word_decides(self):
        self.assert_place("births 9 stays 9 states 9", 7)
        self.assert_place("births 3 stays 9 states 9 ", 15)
        self.assert_place("births 3 2  stays", 9)
        self.assert_place("births 3  2 stays", 9)


if __name__ == "__main__":
    unittest.main()
