"""Point 18: desks, and runs of lines."""

import itertools
import unittest

from fateboards import desk as desk_file
from fateboards.boards import joined, shifted
from fateboards.desk import Desk, run
from fateboards.errors import BadRule, BoardError, InvalidText, NotText, Unasked
from fateboards.finders import find_fate
from fateboards.rules import write_rule
from fateboards.sessions import Session
from fateboards.steps import steps
from fateboards.texts import read_board, read_paper, write_board, write_paper
from tests.helpers import (
    BRAIN, FAR, GROWING, LIFE, NO_RULES, NO_TEXTS, NO_TUPLES, REST, ROW, SHIP, STAYING, WARS, ErrorTest, many_numbers,
)
from tests.samples import GUN, PHOTON, WARS_GUN

RULE = "births 3 stays 2 3 states 2"
# A line of each kind, all of which can be done one behind another.
LINES = (
    "rule", "generation", "living", "box", "board", "cell 0 0", "place 0 0 .a/..a/3a", "put 9 9 1", "undo", "redo",
    "step 3", "go 5", "know 90 30",
)
# Words that are no integers' texts.
NO_NUMBERS = (
    "", "+", "-", "+0", "+1", "-0", "00", "01", "-01", "007", "1.0", "1e3", "1_000", "0x1", "a", "1a", "--1", "1-",
    "one", "\u0661", "\u00b2", "1\n", "\t1", "1" * 62, "-" + "1" * 62, "0" * 61, "None", "True",
)


def told(session):
    """What a session tells that the tests look at."""
    return (session.generation(), session.board(), session.before, session.undone, session.now)


class InterfaceTest(ErrorTest):

    def test_all_are_defined_in_this_file(self):
        self.assertEqual((Desk.__module__, run.__module__), ("fateboards.desk", "fateboards.desk"))
        self.assertIs(desk_file.Desk, Desk)
        self.assertIn("ask", vars(Desk))

    def test_example(self):
        lines = (
            "place 0 0 .a/..a/3a", "know 10 10", "go 1000000000000", "box", "living", "go 5000 1", "undo", "generation",
        )
        self.assertEqual(run(RULE, lines), (
            "done", "from 0\npiece 4 1 1 0 0 .a/2.a/3a", "done", "250000000000 250000000000 250000000002 250000000002",
            "5", "refused", "done", "0",
        ))

    def test_the_attribute_session(self):
        for rule in (LIFE, BRAIN, ((), (), 6)):
            desk = Desk(rule)
            self.assertIsInstance(desk.session, Session)
            self.assertEqual((desk.session.generation(), desk.session.board()), (0, ()))
            desk.session.put((3, 4), 1)
            self.assertEqual(desk.ask("board"), "3 4 a")
            desk.ask("put 5 5 1")
            self.assertEqual(desk.session.living(), 2)

    def test_wrong_rules(self):
        for value in NO_RULES:
            self.assert_error(BadRule, {}, Desk, value)


class DeskTest(ErrorTest):

    def assert_unasked(self, desk, line):
        """The line is refused, and leaves the session as it was, with what can be undone and redone."""
        before = told(desk.session)
        self.assert_error(Unasked, {}, desk.ask, line)
        self.assertEqual(told(desk.session), before)
        self.assertIs(desk.session.now, before[-1])

    def desk_of(self, rule, *boards):
        desk = Desk(rule)
        for board in boards:
            desk.session.place(board, (0, 0))
        return desk


class AnswersTest(DeskTest):

    def test_rule(self):
        for rule in (LIFE, BRAIN, WARS, STAYING, ((), (), 6)):
            self.assertEqual(Desk(rule).ask("rule"), write_rule(rule))

    def test_generation(self):
        desk = self.desk_of(LIFE, REST)
        self.assertEqual(desk.ask("generation"), "0")
        desk.session.know(0, 1)
        for generation in (7, 10 ** 30, FAR):
            desk.session.go(generation)
            self.assertEqual(desk.ask("generation"), str(generation))

    def test_living(self):
        self.assertEqual(Desk(LIFE).ask("living"), "0")
        self.assertEqual(self.desk_of(LIFE, SHIP).ask("living"), "5")
        self.assertEqual(self.desk_of(BRAIN, PHOTON[0]).ask("living"), "2")

    def test_box(self):
        self.assertEqual(Desk(LIFE).ask("box"), "empty")
        self.assertEqual(self.desk_of(LIFE, shifted(SHIP, (-5, 7))).ask("box"), "-5 7 -3 9")
        self.assertEqual(self.desk_of(LIFE, ((-FAR, FAR, 1),)).ask("box"), f"-{FAR} {FAR} -{FAR} {FAR}")

    def test_board(self):
        self.assertEqual(Desk(LIFE).ask("board"), "0 0 ")
        self.assertEqual(self.desk_of(LIFE, shifted(SHIP, (-5, 7))).ask("board"), "-5 7 .a/2.a/3a")
        self.assertEqual(self.desk_of(BRAIN, PHOTON[0]).ask("board"), "-1 0 ba/ba")
        desk = self.desk_of(WARS, WARS_GUN[0])
        desk.session.step(7)
        text, (left, top) = write_board(steps(WARS, WARS_GUN[0], 7))
        self.assertEqual(desk.ask("board"), f"{left} {top} {text}")

    def test_cell(self):
        desk = self.desk_of(BRAIN, PHOTON[0])
        for place, state in (("0 0", "1"), ("-1 1", "2"), ("5 5", "0"), (f"{FAR} -{FAR}", "0")):
            self.assertEqual(desk.ask("cell " + place), state)
        for place in (f"{FAR + 1} 0", f"0 -{FAR + 1}", "9" * 61 + " 0"):
            self.assert_unasked(desk, "cell " + place)

    def test_know(self):
        desk = self.desk_of(LIFE, SHIP)
        self.assertEqual(desk.ask("know 10 10"), "from 0\npiece 4 1 1 0 0 .a/2.a/3a")
        desk.session.go(FAR)
        desk = self.desk_of(LIFE, GUN[0])
        self.assertEqual(desk.ask("know 0 30"), write_paper((0, (), (GUN,))))
        self.assertEqual(Desk(LIFE).ask("know 0 1"), "from 0")
        self.assertEqual(
            read_paper(self.desk_of(LIFE, REST[1:]).ask("know 9 9")), find_fate(LIFE, REST[1:], 9, 9)
        )

    def test_put(self):
        desk = Desk(BRAIN)
        for line in ("put 3 4 1", "put -5 0 2", f"put {FAR} -{FAR} 1", "put 3 4 0"):
            self.assertEqual(desk.ask(line), "done")
        self.assertEqual(desk.session.board(), ((-5, 0, 2), (FAR, -FAR, 1)))

    def test_place(self):
        desk = Desk(LIFE)
        self.assertEqual(desk.ask("place 0 0 .a/..a/3a"), "done")
        self.assertEqual(desk.ask("place 9 -9 2a/aa"), "done")
        self.assertEqual(desk.session.board(), joined(SHIP, shifted(REST, (9, -9))))
        # The text of a board need not be of one that is normal.
        self.assertEqual(desk.ask("place 20 20 /1.a"), "done")
        self.assertEqual(desk.session.cell((21, 21)), 1)

    def test_place_the_empty_board(self):
        desk = self.desk_of(LIFE, REST)
        desk.session.step(3)
        self.assertEqual(desk.ask("place 0 0 "), "done")
        self.assertEqual(desk.ask("place 5 5 ./3."), "done")
        self.assertEqual(desk.session.board(), REST)
        self.assert_unasked(desk, "go 2")
        self.assert_unasked(desk, "place 0 0")

    def test_step_and_go(self):
        desk = self.desk_of(LIFE, SHIP)
        for line, generation in (("step 0", 0), ("step 7", 7), ("go 2000", 2000), ("go 0", 0), ("step 12", 12)):
            self.assertEqual(desk.ask(line), "done")
            self.assertEqual((desk.ask("generation"), desk.ask("living")), (str(generation), "5"))

    def test_undo_and_redo(self):
        desk = Desk(LIFE)
        self.assert_unasked(desk, "undo")
        self.assert_unasked(desk, "redo")
        desk.ask("place 0 0 .a/2.a/3a")
        desk.ask("know 9 9")
        desk.ask("go 4000")
        for line, box in (
            ("undo", "0 0 2 2"), ("undo", "0 0 2 2"), ("undo", "empty"), ("redo", "0 0 2 2"), ("redo", "0 0 2 2"),
            ("redo", "1000 1000 1002 1002"),
        ):
            self.assertEqual((desk.ask(line), desk.ask("box")), ("done", box))
        self.assert_unasked(desk, "redo")


class RefusalsTest(DeskTest):

    def test_no_texts(self):
        desk = self.desk_of(LIFE, ROW)
        before = told(desk.session)
        for value in NO_TEXTS:
            self.assert_error(NotText, {}, desk.ask, value)
        self.assertEqual(told(desk.session), before)

    def test_each_line_can_be_done(self):
        desk = Desk(LIFE)
        for line in LINES:
            self.assertIsInstance(desk.ask(line), str)

    def test_too_few_and_too_many_words(self):
        for line in LINES:
            desk = self.desk_of(LIFE, shifted(ROW, (50, 50)))
            desk.session.step(1)
            desk.session.undo()
            words = line.split(" ")
            for many in range(len(words)):
                self.assert_unasked(desk, " ".join(words[:many]))
            self.assert_unasked(desk, line + " 1")
            self.assert_unasked(desk, "1 " + line)
            self.assert_unasked(desk, line + " a")

    def test_spaces(self):
        for line in LINES:
            desk = self.desk_of(LIFE, shifted(ROW, (50, 50)))
            desk.session.step(1)
            desk.session.undo()
            words = line.split(" ")
            for wrong in (line + " ", " " + line, line + "\n", "\n" + line, "\t".join(words) + "\t", line + "\r"):
                self.assert_unasked(desk, wrong)
            for at in range(1, len(words)):
                self.assert_unasked(desk, " ".join(words[:at]) + "  " + " ".join(words[at:]))
                self.assert_unasked(desk, " ".join(words[:at]) + "\t" + " ".join(words[at:]))
                self.assert_unasked(desk, " ".join(words[:at]) + " ".join(words[at:]))

    def test_other_words(self):
        desk = self.desk_of(LIFE, ROW)
        for line in (
            "", " ", "Rule", "rules", "RULE", "session", "ask", "run", "session 1", "fate", "undo redo", "done", "know",
            "know all", "place a", "__init__", "rule\nrule", "living?", "step one", "go", "box box",
        ):
            self.assert_unasked(desk, line)

    def test_integers(self):
        for line in LINES:
            words = line.split(" ")
            for at in range(1, 3 if words[0] == "place" else len(words)):
                desk = self.desk_of(LIFE, shifted(ROW, (50, 50)))
                desk.session.go(1)
                desk.session.undo()
                for value in NO_NUMBERS:
                    self.assert_unasked(desk, " ".join(words[:at] + [value] + words[at + 1:]))

    def test_integers_of_61_and_62_figures(self):
        desk = self.desk_of(LIFE, REST)
        desk.session.know(0, 1)
        self.assertEqual(len(str(FAR)), 61)
        self.assertEqual(desk.ask(f"go {FAR}"), "done")
        self.assertEqual(desk.ask(f"put {FAR} -{FAR} 1"), "done")
        self.assertEqual(desk.ask(f"cell {FAR} -{FAR}"), "1")
        self.assertEqual(desk.ask(f"place -{FAR} {FAR} a"), "done")
        for line in (f"go {FAR + 1}", f"cell 0 {10 * FAR}", f"put 0 -{FAR + 1} 1", f"place {FAR} 0 2a", f"step {FAR}"):
            self.assert_unasked(desk, line)

    def test_errors_in_doing_a_line(self):
        for rule, before, line in (
            (LIFE, (), "undo"), (LIFE, (), "redo"), (LIFE, ("put 0 0 1",), "redo"), (LIFE, (), "go 2001"),
            (LIFE, (), "go -1"), (LIFE, ("step 9", "put 0 0 1"), "go 8"), (LIFE, ("step 9",), "step -1"),
            (LIFE, ("place 0 0 3a",), "know 600 1"), (LIFE, ("place 0 0 3a",), "know 601 2"), (LIFE, (), "know 0 0"),
            (LIFE, (), "know 0 241"), (LIFE, (), "know -1 1"), (LIFE, (), "put 0 0 2"), (LIFE, (), "put 0 0 -1"),
            (LIFE, (), "place 0 0 b"), (LIFE, (), "place 0 0 f"), (LIFE, (), "place 0 0 a3"),
            (LIFE, (), "place 0 0 0a"),
            (LIFE, ("put 0 0 1",), "place 0 0 a"), (LIFE, (), f"place {FAR} 0 2a"), (LIFE, (), f"put {FAR + 1} 0 1"),
            (BRAIN, (), "put 0 0 3"), (BRAIN, (), "place 0 0 abc"),
            (GROWING, ("put 0 0 1", "go 100"), "living"), (GROWING, ("put 0 0 1", "go 100"), "put 0 0 1"),
            (GROWING, ("put 0 0 1",), "know 600 1"),
            (LIFE, ("put 0 0 1", "put 9999 0 1"), "board"), (LIFE, ("put 0 0 1", "put 0 -9999 1"), "board"),
        ):
            desk = Desk(rule)
            for done in before:
                self.assertEqual(desk.ask(done), "done")
            kept = (desk.session.generation(), desk.session.before, desk.session.undone, desk.session.now)
            self.assert_error(Unasked, {}, desk.ask, line)
            now = (desk.session.generation(), desk.session.before, desk.session.undone, desk.session.now)
            self.assertEqual(now, kept)

    def test_a_paper_that_has_no_text_is_not_known(self):
        # Its core is wider than a text may be.
        rest = shifted(REST, (10 ** 5, 0))
        desk = self.desk_of(WARS, WARS_GUN[0], shifted(WARS_GUN[0], (10 ** 5, 0)))
        desk.session.go(5)
        desk.session.undo()
        self.assert_unasked(desk, "know 5 5")
        self.assert_unasked(desk, "go 2001")
        self.assertEqual(desk.ask("redo"), "done")
        self.assertEqual(desk.session.know(5, 5)[2][0][1], 5)
        self.assertEqual(desk.ask("go 2001"), "done")
        # What is wider as a board, but not as a piece, has a paper's text.
        desk = self.desk_of(LIFE, REST, rest)
        self.assert_unasked(desk, "board")
        self.assertEqual(desk.ask("know 0 1"), "from 0\npiece 1 0 0 0 0 2a/2a\npiece 1 0 0 100000 0 2a/2a")

    def test_as_its_session_does(self):
        numbers = many_numbers(33)
        lines = (
            "place {} {} 2a/2a", "place {} {} .a/2.a/3a", "put {} {} 1", "put {} {} 0", "undo", "undo", "redo",
            "step 7", "know 20 4", "step 100000", "go 90", "cell {} {}", "living",
        )
        answers = {}
        for _ in range(8):
            desk, session = Desk(LIFE), Session(LIFE)
            for _ in range(30):
                line = lines[next(numbers) % len(lines)].format(next(numbers) % 30, next(numbers) % 30)
                told = [self.answer(desk.ask, line), self.answer(self.done_in, session, line)]
                self.assertEqual(told[0], told[1], line)
                self.assertEqual(desk.ask("box"), " ".join(str(side) for side in session.box() or ("empty",)))
                self.assertEqual(desk.ask("generation"), str(session.generation()))
                answers[told[0]] = True
        self.assertGreater(len(answers), 9)

    def answer(self, call, *arguments):
        try:
            return call(*arguments)
        except BoardError:
            return "refused"

    def done_in(self, session, line):
        """Does in a session what a line tells a desk to do."""
        name, *words = line.split(" ")
        if name == "place":
            session.place(read_board(words[2]), (int(words[0]), int(words[1])))
        elif name in ("put", "cell"):
            told = getattr(session, name)((int(words[0]), int(words[1])), *[int(word) for word in words[2:]])
            return "done" if told is None else str(told)
        else:
            told = getattr(session, name)(*[int(word) for word in words])
            if told is not None:
                return write_paper(told) if name == "know" else str(told)
        return "done"


class RunTest(ErrorTest):

    def test_no_lines(self):
        for text in (RULE, "births none stays none states 6"):
            self.assertEqual(run(text, ()), ())

    def test_answers_of_a_new_desk(self):
        lines = ("rule", "board", "put 1 2 1", "board", "undo", "undo", "nothing", "", "box")
        answers = (RULE, "0 0 ", "done", "1 2 a", "done", "refused", "refused", "refused", "empty")
        self.assertEqual(run(RULE, lines), answers)
        self.assertEqual(run(RULE, lines), answers)

    def test_one_line_is_refused_and_others_are_not(self):
        for at, line in itertools.product(range(4), ("go -1", "what", "place 0 0 x", "")):
            lines = ["put 0 0 1", "put 0 1 1", "living"]
            lines.insert(at, line)
            answers = ["done", "done", "2"]
            answers.insert(at, "refused")
            self.assertEqual(run(RULE, tuple(lines)), tuple(answers))

    def test_wrong_rule_texts(self):
        for value in NO_TEXTS:
            self.assert_error(NotText, {}, run, value, ("rule",))
            self.assert_error(NotText, {}, run, value, None)
        for text, place in (
            ("", 0), ("rule", 0), ("births 3 2 stays none states 2", 9), (RULE + " ", len(RULE) + 1),
            ("births 3 stays 2 3 states", 25), ("births 3 stays 2 3 states 7", 26),
        ):
            for lines in ((), ("rule",), None, (None,), ["rule"]):
                self.assert_error(InvalidText, {"place": place}, run, text, lines)

    def test_lines_that_are_no_tuple_of_strings(self):
        for value in NO_TUPLES:
            self.assert_error(NotText, {}, run, RULE, value)
        for value in NO_TEXTS:
            self.assert_error(NotText, {}, run, RULE, (value,))
            self.assert_error(NotText, {}, run, RULE, ("rule", "undo", value, "rule"))


if __name__ == "__main__":
    unittest.main()
