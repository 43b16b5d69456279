"""The whole document: each example and each name of its interface, and each error with its field."""

import doctest
import importlib
import inspect
import unittest

from fateboards import errors
from fateboards.befores import first_before
from fateboards.boards import joined, state_at
from fateboards.desk import Desk, run
from fateboards.errors import BoardError
from fateboards.finders import find_fate
from fateboards.meetings import crossings
from fateboards.papers import fate_living
from fateboards.pieces import first_near, kind_of
from fateboards.rules import read_rule, write_rule
from fateboards.searches import stills_in_box
from fateboards.sessions import Session
from fateboards.steps import steps
from fateboards.texts import read_board, read_paper, write_board
from tests.helpers import FAR, GROWING, LIFE, REST, ROW
from tests.samples import GUN, RESTING, slowed

EXAMPLES = r"""
>>> from fateboards.boards import box, lots, normal, turned
>>> board = ((0, 0, 1), (1, 0, 1), (5, 5, 1))
>>> [box(board), lots(board), normal(((3, 4, 2),)), turned(((1, 0, 1),), 1)]
[(0, 0, 5, 5), (((0, 0, 1), (1, 0, 1)), ((5, 5, 1),)), (((0, 0, 2),), (3, 4)), ((0, 1, 1),)]

>>> from fateboards.steps import steps
>>> rule = ((3,), (2, 3), 2)
>>> row = ((0, 0, 1), (1, 0, 1), (2, 0, 1))
>>> [steps(rule, row, 1), steps(rule, row, 2) == row]
[((1, -1, 1), (1, 0, 1), (1, 1, 1)), True]

>>> from fateboards.pieces import first_near, form_of, kind_of, piece_at, round_of
>>> from fateboards.texts import read_board
>>> rule = ((3,), (2, 3), 2)
>>> ship = (read_board(".a/..a/3a"), 4, (1, 1))
>>> rest = (read_board("15./15./15./15./15./15./15./15./15./15./15./15.2a/15.2a"), 1, (0, 0))
>>> [round_of(rule, ship[0], 20), kind_of(rule, ship), piece_at(rule, ship, 10 ** 30)[0], first_near(rule, ship, rest), form_of(rule, rest)]
[(4, (1, 1)), 'travels', (250000000000000000000000000000, 250000000000000000000000000002, 1), 43, ((0, 0, 1), (0, 1, 1), (1, 0, 1), (1, 1, 1))]

>>> from fateboards.nears import comes_near, first_near_of
>>> [first_near_of((10, 0), (-3, 0)), first_near_of((10, 0), (3, 0)), comes_near((7, 1), (-5, 0), (3, 0)), comes_near((7, 9), (-5, 0), (3, 0))]
[3, None, True, False]

>>> from fateboards.papers import fate_cell, fate_living, shows_fate
>>> rule = ((3,), (2, 3), 2)
>>> square = ((0, 0, 1), (0, 1, 1), (1, 0, 1), (1, 1, 1))
>>> paper = (0, ((square, 1, (0, 0)),), ())
>>> [shows_fate(rule, square, paper), shows_fate(rule, square[:3], (1, paper[1], ())), fate_living(rule, paper, 10 ** 40), fate_cell(rule, paper, 7, (1, 1))]
[True, True, 4, 1]

>>> from fateboards.finders import find_fate
>>> rule = ((3,), (2, 3), 2)
>>> find_fate(rule, ((0, 0, 1), (0, 1, 1), (1, 0, 1)), 5, 5)
(1, ((((0, 0, 1), (0, 1, 1), (1, 0, 1), (1, 1, 1)), 1, (0, 0)),), ())

>>> from fateboards.searches import pieces_in_box, stills_in_box
>>> rule = ((3,), (2, 3), 2)
>>> [stills_in_box(rule, 2, 2), pieces_in_box(rule, 3, 1, 4)]
[(((0, 0, 1), (0, 1, 1), (1, 0, 1), (1, 1, 1)),), ((((0, 0, 1), (0, 1, 1), (0, 2, 1)), 2, (0, 0)),)]

>>> from fateboards.texts import read_paper, write_board, write_paper
>>> paper = (3, ((((5, 5, 1), (5, 6, 1), (6, 5, 1), (6, 6, 1)), 1, (0, 0)),), ())
>>> [write_board(((2, 0, 1), (3, 1, 1))), write_paper(paper), read_paper(write_paper(paper)) == paper]
[('a/.a', (2, 0)), 'from 3\npiece 1 0 0 5 5 2a/2a', True]

>>> from fateboards.desk import run
>>> run("births 3 stays 2 3 states 2", ("place 0 0 .a/..a/3a", "know 10 10", "go 1000000000000", "box", "living", "go 5000 1", "undo", "generation"))
('done', 'from 0\npiece 4 1 1 0 0 .a/2.a/3a', 'done', '250000000000 250000000000 250000000002 250000000002', '5', 'refused', 'done', '0')

>>> from fateboards.befores import befores_count, first_before
>>> rule = ((3,), (2, 3), 2)
>>> [befores_count(rule, ((1,),)), first_before(rule, ((1,),)), befores_count(rule, ((0,),))]
[140, ((0, 0, 0), (0, 0, 0), (1, 1, 1)), 372]

>>> from fateboards.strips import stills_far, stills_in_strip
>>> rule = ((3,), (2, 3), 2)
>>> [stills_in_strip(rule, 2, wide) for wide in range(7)] + [stills_far(rule, 2, 6)]
[1, 1, 2, 3, 6, 10, 15, 15]

>>> from fateboards.soups import soup, tally
>>> rule = ((3,), (2, 3), 2)
>>> [soup(7, 2, 2), tally(rule, 3, 2, 2, 5, 2)]
[(), (3, ())]
"""

INTERFACE = {
    "rules": ("write_rule(rule)", "read_rule(text)"),
    "boards": (
        "state_at(board, place)", "shifted(board, move)", "turned(board, turn)", "joined(board, other)", "box(board)",
        "living(board)", "normal(board)", "are_near(board, other)", "lots(board)",
    ),
    "steps": ("step(rule, board)", "steps(rule, board, many)"),
    "pieces": (
        "shows_piece(rule, value)", "round_of(rule, board, most)", "piece_at(rule, piece, generation)",
        "first_near(rule, piece, other)", "form_of(rule, piece)", "kind_of(rule, piece)",
    ),
    "nears": ("first_near_of(start, move)", "comes_near(start, one, two)"),
    "throwers": ("shows_thrower(rule, value)",),
    "papers": (
        "shows_fate(rule, board, value)", "fate_cell(rule, paper, generation, place)",
        "fate_living(rule, paper, generation)", "fate_box(rule, paper, generation)",
        "fate_board(rule, paper, generation)",
    ),
    "finders": ("find_fate(rule, board, generations, most)", "find_thrower(rule, board, periods, most)"),
    "searches": (
        "stills_in_box(rule, wide, high)", "pieces_in_box(rule, wide, high, most)", "census(rule, pieces)",
    ),
    "meetings": (
        "first_meeting(rule, piece, other)", "outcome(rule, piece, other, generations, most)",
        "crossings(rule, piece, other, across, generations, most)",
    ),
    "texts": ("write_board(board)", "read_board(text)", "write_paper(paper)", "read_paper(text)"),
    "sessions": ("Session(rule)",),
    "desk": ("Desk(rule)", "run(rule_text, lines)"),
    "befores": ("befores_count(rule, picture)", "first_before(rule, picture)"),
    "strips": ("stills_in_strip(rule, high, wide)", "stills_far(rule, high, wide)"),
    "soups": ("soup(seed, wide, high)", "tally(rule, seeds, wide, high, generations, most)"),
}
METHODS = {
    "Session": (
        "generation()", "board()", "cell(place)", "living()", "box()", "put(place, state)", "place(board, move)",
        "know(generations, most)", "go(generation)", "step(many)", "undo()", "redo()",
    ),
    "Desk": ("ask(text)",),
}


def with_session(name, *arguments):
    """A call of a session's method, behind an edit at generation 9."""
    session = Session(LIFE)
    session.go(9)
    session.place(REST, (0, 0))
    return getattr(session, name)(*arguments)


# For each error: its fields, and calls from all over the program that raise it.
ERRORS = (
    ("BadRule", {}, write_rule, (LIFE[:2],)),
    ("BadRule", {}, Session, (((0,), (), 2),)),
    ("BadRule", {}, Desk, (None,)),
    ("BadBoard", {"index": None}, state_at, ([], (0, 0))),
    ("BadBoard", {"index": 1}, state_at, (((0, 0, 1), (0, 0, 2)), (0, 0))),
    ("BadBoard", {"index": None}, steps, (LIFE, ((FAR, 0, 1), (FAR, 1, 1), (FAR, 2, 1)), 1)),
    ("BadBoard", {"index": None}, with_session, ("place", REST, (FAR, 0))),
    ("BadNumber", {}, steps, (LIFE, REST, True)),
    ("BadNumber", {}, with_session, ("put", (0, 0), 2)),
    ("BadNumber", {}, first_before, (((3,), (2, 3), 3), ((1,),))),
    ("Clash", {}, joined, (REST, ROW)),
    ("Clash", {}, with_session, ("place", ROW, (0, 0))),
    ("TooMany", {"most": 3000}, steps, (GROWING, ((0, 0, 1),), 90)),
    ("TooMany", {"most": 6000}, first_near, (LIFE, slowed(RESTING, 240), slowed(RESTING, 127))),
    ("TooMany", {"most": 12}, stills_in_box, (LIFE, 4, 4)),
    ("TooMany", {"most": 9999}, write_board, (((0, 0, 1), (9999, 0, 1)),)),
    ("NotText", {}, read_board, (None,)),
    ("NotText", {}, run, ("births 3 stays 2 3 states 2", ["rule"])),
    ("InvalidText", {"place": 9}, read_rule, ("births 3 2 stays none states 2",)),
    ("InvalidText", {"place": 3}, read_board, ("2a3",)),
    ("InvalidText", {"place": 7}, read_paper, ("from 1\nfrom 1",)),
    ("BadMove", {}, state_at, (REST, [0, 0])),
    ("BadMove", {}, with_session, ("cell", (0, FAR + 1))),
    ("BadPiece", {}, kind_of, (LIFE, (ROW, 1, (0, 0)))),
    ("BadPiece", {}, crossings, (LIFE, RESTING, (((FAR, 0, 1), (FAR, 1, 1)) + REST, 1, (0, 0)), 0, 9, 9)),
    ("BadPaper", {}, fate_living, (LIFE, (0, (RESTING, RESTING), ()), 0)),
    ("TooEarly", {"first": 5}, fate_living, (LIFE, (5, (RESTING,), ()), 4)),
    ("TooEarly", {"first": 9}, with_session, ("go", 8)),
    ("NoFate", {}, with_session, ("go", 2010)),
    ("NothingToUndo", {}, with_session, ("redo",)),
    ("Unasked", {}, Desk(LIFE).ask, ("undo",)),
    ("BadPicture", {}, first_before, (LIFE, ((2,),))),
)


class ExamplesTest(unittest.TestCase):

    def test_examples(self):
        examples = doctest.DocTestParser().get_doctest(EXAMPLES, {}, "DOC.md", "DOC.md", 0)
        runner = doctest.DocTestRunner(verbose=False)
        runner.run(examples, out=self.fail)
        self.assertEqual((runner.failures, runner.tries), (0, len(examples.examples)))
        self.assertGreater(runner.tries, 30)

    def test_example_of_an_error(self):
        with self.assertRaises(errors.InvalidText) as caught:
            read_rule("births 3 2 stays none states 2")
        self.assertEqual(caught.exception.place, 9)


class InterfaceTest(unittest.TestCase):

    def test_names_and_arguments(self):
        for name, calls in INTERFACE.items():
            module = importlib.import_module("fateboards." + name)
            for call in calls:
                made = getattr(module, call.split("(")[0])
                self.assertEqual(made.__module__, "fateboards." + name)
                self.assertEqual(made.__name__ + str(inspect.signature(made)), call)

    def test_methods(self):
        for made in (Session, Desk):
            for call in METHODS[made.__name__]:
                method = vars(made)[call.split("(")[0]]
                arguments = str(inspect.signature(method)).replace("self, ", "").replace("self", "")
                self.assertEqual(method.__name__ + arguments, call)
        self.assertIsInstance(Desk(LIFE).session, Session)


class ErrorsTest(unittest.TestCase):

    def test_each_error_and_its_field(self):
        for name, fields, call, arguments in ERRORS:
            with self.subTest(name=name, call=call.__name__):
                with self.assertRaises(BoardError) as caught:
                    call(*arguments)
                self.assertIs(type(caught.exception), getattr(errors, name))
                self.assertEqual(vars(caught.exception), fields)

    def test_all_errors_are_raised_somewhere(self):
        named = {name for name, made in vars(errors).items() if inspect.isclass(made)} - {"BoardError"}
        self.assertEqual({error[0] for error in ERRORS}, named)
        self.assertTrue(issubclass(BoardError, ValueError))


class ArgumentsTest(unittest.TestCase):

    def test_equal_arguments_have_equal_answers(self):
        self.assertEqual(find_fate(LIFE, GUN[0], 30, 9), find_fate(LIFE, tuple(list(GUN[0])), 30, 9))
        self.assertEqual(run("births 3 stays 2 3 states 2", ("rule",)), run("births 3 stays 2 3 states 2", ("rule",)))


if __name__ == "__main__":
    unittest.main()
