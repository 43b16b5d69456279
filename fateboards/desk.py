"""Desks: sessions that are asked, and told what to do, by lines of words."""

from fateboards.checks import check_text
from fateboards.errors import BoardError, NotText, Unasked
from fateboards.rules import read_rule, write_rule
from fateboards.sessions import Session
from fateboards.texts import is_number, read_board, write_board, write_paper

DONE = "done"
REFUSED = "refused"
EMPTY = "empty"
PLACE = "place"


class Desk:
    """A desk at a session."""

    def __init__(self, rule):
        self.session = Session(rule)

    def ask(self, text):
        """The answer to a line; Unasked for a line that is not one, or that cannot be done."""
        check_text(text)
        try:
            return _answer(self.session, text.split(" "))
        except BoardError:
            raise Unasked("not a line that can be answered or done") from None


def run(rule_text, lines):
    """The answers of a new desk to the lines of a tuple."""
    desk = Desk(read_rule(rule_text))
    if not isinstance(lines, tuple):
        raise NotText("not a tuple of lines")
    for line in lines:
        check_text(line)
    return tuple([_answer_or_refuse(desk, line) for line in lines])


def _answer_or_refuse(desk, line):
    try:
        return desk.ask(line)
    except Unasked:
        return REFUSED


def _answer(session, words):
    """The answer to a line of words."""
    if words[0] == PLACE and len(words) == 4:
        return _place(session, _numbers_of(words[1:3]), words[3])
    if words[0] not in INTEGERS or len(words) != 1 + INTEGERS[words[0]]:
        raise Unasked("not such a line")
    action = ACTIONS[words[0]]
    return action(session, _numbers_of(words[1:]))


def _numbers_of(words):
    """The integers that words tell."""
    if not all([is_number(word) for word in words]):
        raise Unasked("not an integer's text")
    return [int(word) for word in words]


def _place(session, numbers, text):
    session.place(read_board(text), tuple(numbers))
    return DONE


def _rule(session, _):
    return write_rule(session.rule)


def _generation(session, _):
    return str(session.generation())


def _living(session, _):
    return str(session.living())


def _box(session, _):
    sides = session.box()
    return EMPTY if sides is None else " ".join([str(side) for side in sides])


def _board(session, _):
    text, (left, top) = write_board(session.board())
    return f"{left} {top} {text}"


def _cell(session, numbers):
    return str(session.cell(tuple(numbers)))


def _know(session, numbers):
    paper = session.search(numbers[0], numbers[1])
    # It is written first: a paper that has no text is not to be known, since the line is refused.
    text = write_paper(paper)
    session.learn(paper)
    return text


def _undo(session, _):
    session.undo()
    return DONE


def _redo(session, _):
    session.redo()
    return DONE


def _put(session, numbers):
    session.put(tuple(numbers[:2]), numbers[2])
    return DONE


def _step(session, numbers):
    session.step(numbers[0])
    return DONE


def _go(session, numbers):
    session.go(numbers[0])
    return DONE


# How many integers follow the word with which a line begins, and what answers it.
INTEGERS = {
    "rule": 0, "generation": 0, "living": 0, "box": 0, "board": 0, "cell": 2,
    "know": 2, "undo": 0, "redo": 0, "put": 3, "step": 1, "go": 1,
}
ACTIONS = {
    "rule": _rule, "generation": _generation, "living": _living, "box": _box, "board": _board, "cell": _cell,
    "know": _know, "undo": _undo, "redo": _redo, "put": _put, "step": _step, "go": _go,
}
