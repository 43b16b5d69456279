"""Point 17: sessions."""

import unittest

from fateboards import sessions
from fateboards.boards import box, joined, living, shifted, state_at
from fateboards.errors import (
    BadBoard, BadMove, BadNumber, BadRule, BoardError, Clash, NoFate, NothingToUndo, TooEarly, TooMany,
)
from fateboards.finders import find_fate, find_thrower
from fateboards.papers import fate_board, fate_box, fate_cell, fate_living
from fateboards.sessions import Session
from fateboards.steps import steps
from tests.helpers import (
    BRAIN, FAR, GROWING, LIFE, NO_BOARDS, NO_PLACES, NO_RULES, REST, ROW, SHIP, STAYING, WARS, ErrorTest, board_of,
    many_numbers, wrong_numbers,
)
from tests.samples import GUN, PHOTON, RAKE, WARS_GUN, slowed_throws

METHODS = (
    "generation", "board", "cell", "living", "box", "put", "place", "know", "go", "step", "undo", "redo",
)
# Under LIFE: rests behind 15 generations, and lives for long.
LATE = tuple((x, 0, 1) for x in range(10))
LONG_LIVED = board_of(".aa", "aa", ".a")
# Under LIFE, the corner of a square becomes the square.
CORNER = REST[:3]


def session_of(rule, *boards):
    """A session in which some boards were laid."""
    session = Session(rule)
    for board in boards:
        session.place(board, (0, 0))
    return session


def told(session):
    """All that a session tells, errors included."""
    answers = [session.generation()]
    calls = [session.board, session.living, session.box]
    calls += [lambda place=place: session.cell(place) for place in ((0, 0), (1, 1), (-3, 2), (FAR, FAR))]
    for call in calls:
        try:
            answers.append(call())
        except BoardError as error:
            answers.append((type(error), vars(error)))
    return answers


class SessionTried:
    """A session that is as the document tells it, with all moments kept and nothing else."""

    def __init__(self, rule):
        self.rule = rule
        self.moments = [(0, (), 0, None)]
        self.at = 0

    def generation(self):
        return self.moments[self.at][2]

    def board(self):
        return self.tell(fate_board, lambda board: board)

    def living(self):
        return self.tell(fate_living, living)

    def box(self):
        return self.tell(fate_box, box)

    def cell(self, place):
        return self.tell(fate_cell, lambda board: state_at(board, place), place)

    def tell(self, by_paper, by_board, *more):
        start, board, generation, paper = self.moments[self.at]
        if paper is not None and generation >= start + paper[0]:
            return by_paper(self.rule, paper, generation - start, *more)
        return by_board(steps(self.rule, board, generation - start))

    def go_on(self, *moment):
        self.moments = self.moments[:self.at + 1] + [moment]
        self.at += 1

    def edit(self, board):
        if any(max(abs(x), abs(y)) > FAR for x, y, _ in board):
            raise BadBoard(None)
        self.go_on(self.generation(), board, self.generation(), None)

    def put(self, place, state):
        cells = {(x, y): state for x, y, state in self.board()}
        cells[place] = state
        self.edit(tuple((x, y, state) for (x, y), state in sorted(cells.items()) if state > 0))

    def place(self, board, move):
        self.edit(joined(self.board(), shifted(board, move)))

    def go(self, generation):
        start, board, _, paper = self.moments[self.at]
        if generation > FAR:
            raise BadNumber()
        if generation < start:
            raise TooEarly(start)
        if generation > start + 2000 and paper is None:
            raise NoFate()
        self.go_on(start, board, generation, paper)

    def step(self, many):
        self.go(self.generation() + many)

    def know(self, generations, most):
        start, board, generation, _ = self.moments[self.at]
        paper = find_fate(self.rule, board, generations, most)
        if paper is None:
            thrower = find_thrower(self.rule, board, most, most)
            if thrower is None:
                raise NoFate()
            paper = (0, (), (thrower,))
        self.go_on(start, board, generation, paper)
        return paper

    def undo(self):
        if self.at == 0:
            raise NothingToUndo()
        self.at -= 1

    def redo(self):
        if self.at + 1 == len(self.moments):
            raise NothingToUndo()
        self.at += 1


class InterfaceTest(ErrorTest):

    def test_the_class_and_its_methods_are_defined_here(self):
        self.assertEqual(Session.__module__, "fateboards.sessions")
        self.assertIs(sessions.Session, Session)
        for name in METHODS:
            self.assertIn(name, vars(Session))

    def test_rules(self):
        for rule in (LIFE, BRAIN, WARS, ((), (), 6)):
            self.assertEqual(told(Session(rule))[:4], [0, (), 0, None])
        for value in NO_RULES:
            self.assert_error(BadRule, {}, Session, value)

    def test_sessions_do_not_share_what_is_done(self):
        one, other = session_of(LIFE, REST), Session(LIFE)
        self.assertEqual((one.board(), other.board()), (REST, ()))
        self.assert_error(NothingToUndo, {}, other.undo)


class SessionTest(ErrorTest):

    def assert_left(self, session, error, fields, call, *arguments):
        """The call raises the error, and leaves the session as it was, with what can be undone and redone."""
        before = told(session)
        self.assert_error(error, fields, call, *arguments)
        self.assertEqual(told(session), before)
        session.go(session.generation())
        session.undo()
        self.assertEqual(told(session), before)


class TellingTest(SessionTest):

    def test_new_session(self):
        session = Session(LIFE)
        self.assertEqual(
            (session.generation(), session.board(), session.living(), session.box(), session.cell((5, -5))),
            (0, (), 0, None, 0),
        )
        session.go(2000)
        self.assertEqual(told(session)[:4], [2000, (), 0, None])

    def test_by_steps(self):
        session = session_of(BRAIN, PHOTON[0])
        for generation in (0, 1, 2, 7, 30, 5):
            session.go(generation)
            board = steps(BRAIN, PHOTON[0], generation)
            self.assertEqual(session.board(), board)
            self.assertEqual((session.living(), session.box()), (2, box(board)))
            for place in ((0, 0), (-1, 1), (7, 0), (6, 1), (30, 1)):
                self.assertEqual(session.cell(place), state_at(board, place))

    def test_all_generations_up_and_down(self):
        session = session_of(LIFE, LONG_LIVED)
        boards = [LONG_LIVED]
        for _ in range(40):
            boards.append(steps(LIFE, boards[-1], 1))
        for generation in list(range(41)) + list(range(40, -1, -3)) + [39, 39, 2, 40]:
            session.go(generation)
            self.assertEqual(session.board(), boards[generation])
            self.assertEqual(session.living(), len(boards[generation]))

    def test_by_a_paper(self):
        session = session_of(LIFE, LATE)
        paper = session.know(60, 30)
        self.assertGreater(paper[0], 0)
        for generation in (0, paper[0] - 1, paper[0], paper[0] + 1, 1999, 2000, 2001):
            session.go(generation)
            board = steps(LIFE, steps(LIFE, LATE, min(generation, 2000)), max(0, generation - 2000))
            self.assertEqual(told(session)[:4], [generation, board, len(board), box(board)])
        session.go(FAR)
        self.assertEqual(session.board(), fate_board(LIFE, paper, FAR))
        self.assertEqual(session.living(), fate_living(LIFE, paper, FAR))

    def test_by_the_paper_of_a_thrower(self):
        session = session_of(LIFE, GUN[0])
        paper = session.know(0, 30)
        self.assertEqual(paper, (0, (), (GUN,)))
        for generation in (0, 30, 60, 77, 600):
            session.go(generation)
            board = steps(LIFE, GUN[0], generation)
            self.assertEqual(told(session)[:4], [generation, board, len(board), box(board)])
        session.go(30 * 10 ** 20)
        self.assertEqual(session.living(), 5 * 10 ** 20 + 36)
        self.assertEqual(session.cell((24, 10)), 1)
        self.assertEqual(session.box(), fate_box(LIFE, paper, 30 * 10 ** 20))
        self.assert_error(TooMany, {"most": 3000}, session.board)

    def test_generations_of_a_start_that_is_not_0(self):
        session = session_of(LIFE, SHIP)
        session.go(8)
        session.place(REST, (40, 0))
        board = joined(steps(LIFE, SHIP, 8), shifted(REST, (40, 0)))
        session.go(20)
        self.assertEqual(session.board(), steps(LIFE, board, 12))
        paper = session.know(9, 9)
        self.assertEqual(paper, find_fate(LIFE, board, 9, 9))
        self.assertEqual(session.board(), steps(LIFE, board, 12))
        session.go(8 + 4 * 10 ** 30)
        self.assertEqual(session.box()[2:], (10 ** 30 + 4, 10 ** 30 + 4))

    def test_wrong_places(self):
        session = session_of(LIFE, REST)
        for value in NO_PLACES:
            self.assert_error(BadMove, {}, session.cell, value)
        session.go(7)
        self.assertEqual(session.cell((FAR, -FAR)), 0)

    def test_too_many_cells(self):
        session = session_of(GROWING, ((0, 0, 1),))
        session.go(100)
        for call in (session.board, session.living, session.box):
            self.assert_error(TooMany, {"most": 3000}, call)
        self.assert_error(TooMany, {"most": 3000}, session.cell, (0, 0))
        self.assert_error(BadMove, {}, session.cell, None)
        session.go(9)
        self.assertEqual(session.board(), steps(GROWING, ((0, 0, 1),), 9))
        crowd = tuple((9 * place, 0, 1) for place in range(3001))
        session = session_of(LIFE, crowd)
        self.assertEqual(session.living(), 3001)
        self.assertEqual(session.board(), crowd)
        session.step(1)
        self.assert_error(TooMany, {"most": 3000}, session.living)

    def test_too_many_cells_for_a_paper_to_tell_them_all(self):
        rows = tuple((x, 9 * y, 1) for x in range(300) for y in range(11))
        session = session_of(STAYING, rows)
        self.assertEqual(session.board(), rows)
        self.assertEqual(session.know(0, 1)[0], 0)
        # It is the paper that tells the board from here on, also at the start itself.
        for generation in (0, 1, FAR):
            session.go(generation)
            self.assert_left(session, TooMany, {"most": 3000}, session.board)
            self.assert_left(session, TooMany, {"most": 3000}, session.put, (0, 0), 0)
            self.assertEqual((session.living(), session.box()), (3300, (0, 0, 299, 90)))
        for _ in range(4):
            session.undo()
        self.assertEqual(session.board(), rows)

    def test_steps_beyond_the_last_places(self):
        session = session_of(LIFE, shifted(SHIP, (FAR - 3, 0)))
        session.go(4)
        self.assertEqual(session.box()[2], FAR)
        session.go(8)
        self.assert_error(BadBoard, {"index": None}, session.box)
        session.go(3)
        self.assertEqual(session.living(), 5)


class EditTest(SessionTest):

    def test_put(self):
        session = Session(BRAIN)
        session.put((3, 4), 1)
        session.put((2, 9), 2)
        self.assertEqual(session.board(), ((2, 9, 2), (3, 4, 1)))
        session.put((3, 4), 2)
        session.put((2, 9), 0)
        self.assertEqual(session.board(), ((3, 4, 2),))
        session.put((3, 4), 0)
        session.put((3, 4), 0)
        self.assertEqual(session.board(), ())
        for _ in range(6):
            session.undo()
        self.assert_error(NothingToUndo, {}, session.undo)

    def test_put_all_states_of_the_rule(self):
        for states in range(2, 7):
            session = Session(((3,), (2, 3), states))
            for state in range(states):
                session.put((0, 0), state)
                self.assertEqual(session.cell((0, 0)), state)
            for value in (states, states + 1, -1):
                self.assert_left(session, BadNumber, {}, session.put, (0, 0), value)

    def test_place(self):
        session = Session(LIFE)
        session.place(SHIP, (0, 0))
        session.place(REST, (9, -9))
        session.place((), (0, 0))
        board = joined(SHIP, shifted(REST, (9, -9)))
        self.assertEqual(session.board(), board)
        session.undo()
        session.undo()
        self.assertEqual(session.board(), SHIP)

    def test_behind_a_go(self):
        session = session_of(LIFE, SHIP)
        session.go(5)
        session.put((50, 50), 1)
        board = joined(steps(LIFE, SHIP, 5), ((50, 50, 1),))
        self.assertEqual((session.generation(), session.board()), (5, board))
        session.step(1)
        session.place(ROW, (-9, -9))
        board = joined(steps(LIFE, board, 1), shifted(ROW, (-9, -9)))
        self.assertEqual((session.generation(), session.board()), (6, board))
        self.assert_left(session, TooEarly, {"first": 6}, session.go, 5)
        session.go(7)
        self.assertEqual(session.board(), steps(LIFE, board, 1))

    def test_an_edit_that_changes_nothing_is_a_start(self):
        for edit in (lambda session: session.put((0, 0), 1), lambda session: session.put((9, 9), 0),
                     lambda session: session.place((), (3, 3))):
            session = session_of(LIFE, REST)
            session.know(9, 9)
            session.go(40)
            edit(session)
            self.assertEqual((session.generation(), session.board()), (40, REST))
            self.assert_left(session, TooEarly, {"first": 40}, session.go, 39)
            self.assert_left(session, NoFate, {}, session.go, 2041)

    def test_the_board_that_a_paper_tells(self):
        session = session_of(LIFE, SHIP)
        session.know(9, 9)
        session.go(4 * 10 ** 20)
        session.put((0, 0), 1)
        board = joined(((0, 0, 1),), shifted(SHIP, (10 ** 20, 10 ** 20)))
        self.assertEqual((session.generation(), session.board()), (4 * 10 ** 20, board))
        session.step(4)
        self.assertEqual(session.board(), shifted(SHIP, (10 ** 20 + 1, 10 ** 20 + 1)))

    def test_no_paper_is_known_behind_an_edit(self):
        session = session_of(LIFE, REST)
        session.know(9, 9)
        session.put((9, 9), 1)
        self.assert_left(session, NoFate, {}, session.go, 2001)
        session.go(1)
        self.assertEqual(session.board(), REST)

    def test_beyond_and_at_the_last_place(self):
        for right, down in ((FAR - 1, 0), (-FAR, 0), (0, FAR - 1), (0, -FAR), (FAR - 1, -FAR)):
            session = Session(LIFE)
            session.place(REST, (right, down))
            self.assertEqual(session.board(), shifted(REST, (right, down)))
            session.step(9)
            self.assertEqual(session.living(), 4)
            session.put((-FAR, FAR), 1)
        for right, down in ((FAR, 0), (0, FAR), (FAR, FAR)):
            session = session_of(LIFE, SHIP)
            self.assert_left(session, BadBoard, {"index": None}, session.place, REST, (right, down))
        left = shifted(REST, (-FAR, -FAR))
        session = Session(LIFE)
        for right, down in ((-1, 0), (0, -1)):
            self.assert_left(session, BadBoard, {"index": None}, session.place, left, (right, down))
        session.place(left, (FAR, FAR))
        self.assertEqual(session.board(), REST)

    def test_a_board_that_is_told_beyond_the_last_places(self):
        # Up to here the paper tells it, but it cannot be edited.
        session = session_of(BRAIN, shifted(PHOTON[0], (5, 0)))
        session.know(9, 9)
        session.go(FAR)
        self.assertEqual(session.box(), (FAR + 4, 0, FAR + 5, 1))
        self.assert_left(session, BadBoard, {"index": None}, session.put, (0, 0), 1)
        self.assert_left(session, BadBoard, {"index": None}, session.put, (0, 0), 0)
        self.assert_left(session, BadBoard, {"index": None}, session.place, (), (0, 0))
        session.go(FAR - 5)
        session.put((0, 0), 2)
        self.assertEqual(session.box(), (0, 0, FAR, 1))

    def test_clashes(self):
        session = session_of(LIFE, REST)
        for board, move in ((REST, (0, 0)), (REST, (1, 1)), (((0, 0, 1),), (1, 0)), (SHIP, (-1, 0))):
            self.assert_left(session, Clash, {}, session.place, board, move)
        session.place(REST, (2, 0))
        session.place(((0, 0, 1),), (0, 2))
        self.assertEqual(session.living(), 9)
        session = session_of(BRAIN, ((0, 0, 2),))
        self.assert_left(session, Clash, {}, session.place, ((0, 0, 1),), (0, 0))
        session.step(1)
        session.place(((0, 0, 1),), (0, 0))

    def test_the_order_of_errors_of_place(self):
        session = session_of(LIFE, REST)
        dying, high = ((0, 0, 1), (5, 0, 2)), ((0, 0, 1), (0, 0, 1))
        self.assert_left(session, BadBoard, {"index": 1}, session.place, high, None)
        self.assert_left(session, BadBoard, {"index": None}, session.place, dying, None)
        self.assert_left(session, BadBoard, {"index": None}, session.place, dying, (0, 0))
        self.assert_left(session, BadMove, {}, session.place, REST, (FAR + 1, 0))
        # What is beyond is told ahead of what clashes.
        far = REST + ((FAR, 0, 1),)
        self.assert_left(session, Clash, {}, session.place, far, (0, 0))
        self.assert_left(session, BadBoard, {"index": None}, session.place, far, (1, 0))

    def test_states_that_the_rule_has_not(self):
        for state in (2, 3, 5):
            session = Session(LIFE)
            self.assert_left(session, BadBoard, {"index": None}, session.place, ((0, 0, state),), (0, 0))
            self.assert_left(session, BadNumber, {}, session.put, (0, 0), state)
        session = Session(WARS)
        session.place(WARS_GUN[0], (5, 5))
        self.assert_left(session, BadBoard, {"index": None}, session.place, ((99, 0, 4),), (0, 0))

    def test_boards_with_too_many_cells(self):
        session = session_of(GROWING, ((0, 0, 1),))
        session.go(200)
        self.assert_error(TooMany, {"most": 3000}, session.put, (0, 0), 1)
        self.assert_error(TooMany, {"most": 3000}, session.place, (), (0, 0))
        session.undo()
        self.assertEqual(session.board(), ((0, 0, 1),))
        session = session_of(LIFE, GUN[0])
        session.know(0, 30)
        session.go(10 ** 9)
        self.assert_left(session, TooMany, {"most": 3000}, session.put, (0, 0), 1)
        self.assert_left(session, BadNumber, {}, session.put, (0, 0), 2)

    def test_wrong_arguments(self):
        session = session_of(BRAIN, PHOTON[0])
        boards = [(BadBoard, {"index": index}, value) for value, index in NO_BOARDS]
        boards.append((BadBoard, {"index": None}, ((0, 0, 3),)))
        moves = [(BadMove, {}, value) for value in NO_PLACES]
        before = told(session)
        self.assert_arguments(session.place, (((9, 9, 1),), (0, 0)), (boards, moves))
        states = [(BadNumber, {}, value) for value in wrong_numbers(0, 2)]
        self.assert_arguments(session.put, ((0, 0), 1), (moves, states))
        self.assertEqual(told(session), before)
        session.undo()
        self.assert_error(NothingToUndo, {}, session.undo)


class GoTest(SessionTest):

    def test_the_generation_that_is_looked_at(self):
        session = session_of(LIFE, SHIP)
        session.go(0)
        session.go(7)
        session.go(7)
        self.assertEqual(session.generation(), 7)
        for generation in (7, 0, 0):
            session.undo()
            self.assertEqual(session.generation(), generation)

    def test_back_to_the_start_and_ahead_of_it(self):
        session = session_of(LIFE, SHIP)
        session.go(30)
        session.put((0, 0), 1)
        session.go(90)
        session.go(31)
        session.go(30)
        for generation in (29, 1, 0):
            self.assert_left(session, TooEarly, {"first": 30}, session.go, generation)
        self.assertEqual(session.generation(), 30)

    def test_2000_and_2001_behind_the_start(self):
        for start in (0, 50):
            session = session_of(LIFE, ROW)
            session.go(start)
            session.put((0, 0), session.cell((0, 0)))
            session.go(start + 2000)
            self.assertEqual(session.living(), 3)
            for generation in (start + 2001, 10 ** 9, FAR):
                self.assert_left(session, NoFate, {}, session.go, generation)
            session.know(9, 9)
            session.go(start + 2001)
            session.go(FAR)
            self.assertEqual(session.board(), ROW)

    def test_a_known_paper_of_a_later_generation(self):
        session = session_of(LIFE, CORNER)
        self.assertEqual(session.know(9, 9), (1, ((REST, 1, (0, 0)),), ()))
        for generation, board in ((0, CORNER), (1, REST), (2001, REST), (FAR, REST), (0, CORNER)):
            session.go(generation)
            self.assertEqual(session.board(), board)

    def test_10_to_the_60(self):
        session = session_of(LIFE, REST)
        session.know(0, 1)
        session.go(FAR)
        self.assertEqual((session.generation(), session.board()), (FAR, REST))
        self.assert_left(session, BadNumber, {}, session.go, FAR + 1)
        self.assert_left(session, BadNumber, {}, session.step, 1)
        session.step(0)
        session.put((9, 9), 1)
        self.assertEqual((session.generation(), session.living()), (FAR, 5))
        self.assert_left(session, TooEarly, {"first": FAR}, session.go, FAR - 1)
        self.assert_left(session, BadNumber, {}, session.step, 1)

    def test_step(self):
        session = session_of(LIFE, SHIP)
        session.step(0)
        session.step(7)
        session.step(1993)
        self.assertEqual((session.generation(), session.board()), (2000, shifted(SHIP, (500, 500))))
        self.assert_left(session, NoFate, {}, session.step, 1)
        for generation in (7, 0, 0):
            session.undo()
            self.assertEqual(session.generation(), generation)
        session.undo()
        self.assertEqual(session.board(), ())

    def test_steps_back(self):
        session = session_of(LIFE, SHIP)
        session.go(9)
        for many in (-1, -9, -10, -FAR):
            self.assert_left(session, BadNumber, {}, session.step, many)

    def test_wrong_arguments(self):
        session = session_of(LIFE, REST)
        session.know(0, 1)
        before = told(session)
        for value in wrong_numbers(0, FAR):
            self.assert_error(BadNumber, {}, session.go, value)
            self.assert_error(BadNumber, {}, session.step, value)
        self.assertEqual(told(session), before)
        session.undo()
        session.undo()
        self.assert_error(NothingToUndo, {}, session.undo)


class KnowTest(SessionTest):

    def test_empty_board(self):
        session = Session(LIFE)
        self.assertEqual(session.know(0, 1), (0, (), ()))
        session.go(FAR)
        self.assertEqual(told(session)[:4], [FAR, (), 0, None])

    def test_a_fate_that_is_found(self):
        for rule, board in ((LIFE, CORNER), (LIFE, LATE), (BRAIN, PHOTON[0]), (LIFE, SHIP), (LIFE, ((0, 0, 1),))):
            session = session_of(rule, board)
            paper = session.know(60, 30)
            self.assertEqual(paper, find_fate(rule, board, 60, 30))
            session.go(1000)
            self.assertEqual(session.board(), steps(rule, board, 1000))

    def test_throwers(self):
        for rule, thrower in ((LIFE, GUN), (WARS, WARS_GUN), (BRAIN, RAKE)):
            session = session_of(rule, thrower[0])
            self.assertEqual(session.know(20, 30), (0, (), (thrower,)))
            session.go(90)
            self.assertEqual(session.board(), steps(rule, thrower[0], 90))
            session.go(10 ** 40)
            self.assertGreater(session.living(), 10 ** 38)

    def test_most_bounds_the_throwers_periods_and_those_of_what_is_thrown(self):
        for rule, thrower in ((LIFE, GUN), (WARS, WARS_GUN), (BRAIN, RAKE)):
            session = session_of(rule, thrower[0])
            self.assert_left(session, NoFate, {}, session.know, 20, thrower[1] - 1)
            self.assertEqual(session.know(20, thrower[1]), (0, (), (thrower,)))

    def test_no_fate(self):
        for rule, board, generations, most in (
            (LIFE, LONG_LIVED, 100, 30), (LIFE, ROW, 600, 1), (LIFE, CORNER, 0, 240), (LIFE, GUN[0], 20, 29),
        ):
            session = session_of(rule, board)
            self.assert_left(session, NoFate, {}, session.know, generations, most)
            self.assert_left(session, NoFate, {}, session.go, 2001)

    def test_it_is_the_board_at_the_start_whose_fate_is_looked_for(self):
        session = session_of(LIFE, CORNER)
        session.go(1)
        self.assert_left(session, NoFate, {}, session.know, 0, 9)
        self.assertEqual(session.know(1, 9)[0], 1)
        self.assertEqual(session.generation(), 1)
        session.go(0)
        self.assertEqual(session.board(), CORNER)
        session = session_of(LIFE, CORNER)
        session.go(1)
        session.put((9, 9), 0)
        self.assertEqual(session.know(0, 9)[0], 0)

    def test_what_is_known_is_what_was_found_last(self):
        session = session_of(LIFE, CORNER)
        first = session.know(1, 1)
        self.assertEqual(session.know(600, 240), first)
        self.assert_left(session, NoFate, {}, session.know, 0, 1)
        session.go(FAR)
        self.assertEqual(session.board(), REST)

    def test_undone(self):
        session = session_of(LIFE, SHIP)
        session.know(9, 9)
        session.go(4000)
        session.undo()
        session.undo()
        self.assertEqual((session.generation(), session.board()), (0, SHIP))
        self.assert_error(NoFate, {}, session.go, 4000)
        session.redo()
        session.redo()
        self.assertEqual((session.generation(), session.board()), (4000, shifted(SHIP, (1000, 1000))))
        session.go(8000)
        self.assertEqual(session.board(), shifted(SHIP, (2000, 2000)))

    def test_too_many(self):
        session = session_of(GROWING, ((0, 0, 1),))
        self.assert_left(session, TooMany, {"most": 3000}, session.know, 600, 1)
        self.assert_left(session, NoFate, {}, session.know, 9, 1)
        slow = slowed_throws(WARS_GUN, 78)
        session = session_of(WARS, slow[0])
        self.assertEqual(session.know(5, 9), (0, (), (WARS_GUN,)))

    def test_steps_beyond_the_last_places(self):
        session = session_of(LIFE, shifted(SHIP, (FAR - 2, 0)))
        self.assert_left(session, BadBoard, {"index": None}, session.know, 0, 9)

    def test_wrong_arguments(self):
        session = session_of(LIFE, REST)
        self.assert_arguments(session.know, (9, 9), (
            [(BadNumber, {}, value) for value in wrong_numbers(0, 600)],
            [(BadNumber, {}, value) for value in wrong_numbers(1, 240)],
        ))
        self.assert_error(BadNumber, {}, session.know, 601, 9)
        session.undo()
        self.assert_error(NothingToUndo, {}, session.undo)


class UndoTest(SessionTest):

    def test_nothing_to_undo_and_to_redo(self):
        session = Session(LIFE)
        self.assert_error(NothingToUndo, {}, session.undo)
        self.assert_error(NothingToUndo, {}, session.redo)
        session.go(3)
        self.assert_error(NothingToUndo, {}, session.redo)
        session.undo()
        self.assert_error(NothingToUndo, {}, session.undo)
        session.redo()
        self.assert_error(NothingToUndo, {}, session.redo)
        self.assertEqual(session.generation(), 3)

    def test_over_several_things_done(self):
        session = Session(LIFE)
        does = (
            lambda: session.place(SHIP, (0, 0)), lambda: session.go(4), lambda: session.know(9, 9),
            lambda: session.go(4 * 10 ** 20), lambda: session.put((0, 0), 1), lambda: session.step(1),
            lambda: session.place(REST, (9, 9)), lambda: session.know(5, 5), lambda: session.step(10 ** 30),
        )
        kept = [told(session)]
        for do in does:
            do()
            kept.append(told(session))
        for _ in range(3):
            for before in kept[-2::-1]:
                session.undo()
                self.assertEqual(told(session), before)
            self.assert_error(NothingToUndo, {}, session.undo)
            for behind in kept[1:]:
                session.redo()
                self.assertEqual(told(session), behind)
            self.assert_error(NothingToUndo, {}, session.redo)

    def test_something_else_done_since(self):
        for do in (
            lambda session: session.put((5, 5), 1), lambda session: session.place((), (0, 0)),
            lambda session: session.go(0), lambda session: session.step(0), lambda session: session.know(9, 9),
        ):
            session = session_of(LIFE, REST)
            session.go(7)
            session.undo()
            do(session)
            self.assert_error(NothingToUndo, {}, session.redo)
            session.undo()
            session.redo()
            session.undo()
            self.assertEqual((session.generation(), session.board()), (0, REST))
            session.undo()
            self.assertEqual(session.board(), ())

    def test_what_raises_an_error_is_not_done(self):
        for error, name, arguments in (
            (BadMove, "put", (None, 1)), (BadNumber, "put", ((0, 0), 2)), (Clash, "place", (REST, (0, 0))),
            (BadBoard, "place", (None, (0, 0))), (BadBoard, "place", (REST, (FAR, 0))), (BadNumber, "go", (-1,)),
            (NoFate, "go", (2001,)), (BadNumber, "step", (None,)), (NoFate, "step", (FAR,)), (NoFate, "know", (0, 1)),
            (BadNumber, "know", (0, 0)), (BadMove, "cell", ((0,),)),
        ):
            session = session_of(LIFE, ROW)
            session.go(7)
            session.undo()
            with self.assertRaises(error):
                getattr(session, name)(*arguments)
            session.redo()
            self.assertEqual(session.generation(), 7)
            session.undo()
            session.undo()
            self.assertEqual(session.board(), ())

    def test_what_is_asked_is_nothing_done(self):
        session = session_of(LIFE, REST)
        session.undo()
        told(session)
        session.redo()
        told(session)
        self.assertEqual(session.board(), REST)
        session.undo()
        self.assert_error(NothingToUndo, {}, session.undo)

    def test_these_take_no_argument_and_return_nothing(self):
        session = Session(LIFE)
        for answer in (
            session.put((0, 0), 1), session.place(REST, (5, 5)), session.go(0), session.step(0), session.undo(),
            session.redo(),
        ):
            self.assertIsNone(answer)


class ManyThingsDoneTest(ErrorTest):
    """Sessions and the ones that are tried are told the same, in any order, and answer the same."""

    def test_many_things_done(self):
        for seed, (rule, boards) in enumerate((
            (LIFE, (REST, SHIP, ROW, CORNER, GUN[0])), (BRAIN, (PHOTON[0], RAKE[0], ((0, 0, 1),))),
            (WARS, (WARS_GUN[0], WARS_GUN[3][0][0], REST)), (LIFE, (LATE, LONG_LIVED, SHIP)),
        )):
            numbers = many_numbers(seed + 70)
            seen = {}
            for _ in range(6):
                session, tried = Session(rule), SessionTried(rule)
                for _ in range(40):
                    name, arguments = self.next_thing(numbers, boards, session.generation())
                    answers = [self.answer(one, name, arguments) for one in (session, tried)]
                    self.assertEqual(answers[0], answers[1], (name, arguments))
                    self.assertEqual(told(session), told(tried), (name, arguments))
                    kind = answers[0][0] if isinstance(answers[0], tuple) and answers[0] else None
                    seen[name, kind if isinstance(kind, type) else None] = True
            self.assertGreater(len(seen), 9, seen)

    def next_thing(self, numbers, boards, generation):
        """A thing that is done next: its name and its arguments."""
        kind = next(numbers) % 12
        if kind < 2:
            return ("put", ((next(numbers) % 9, next(numbers) % 9), next(numbers) % 2))
        if kind < 4:
            return ("place", (boards[next(numbers) % len(boards)], (next(numbers) % 90 - 45, next(numbers) % 90 - 45)))
        if kind < 6:
            generations = (0, generation, generation - 1, generation + 30, generation + 10 ** 12, FAR, 99, FAR - 3)
            return ("go", (max(0, generations[next(numbers) % len(generations)]),))
        if kind < 8:
            return ("step", ((0, 1, 5, 31, 10 ** 30)[next(numbers) % 5],))
        if kind < 10:
            return ("know", ((0, 20, 60)[next(numbers) % 3], (1, 4, 30)[next(numbers) % 3]))
        return ("undo" if next(numbers) % 3 else "redo", ())

    def answer(self, session, name, arguments):
        try:
            return getattr(session, name)(*arguments)
        except BoardError as error:
            return (type(error), vars(error))


if __name__ == "__main__":
    unittest.main()
