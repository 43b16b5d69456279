"""Rules: what they are, and their texts."""

from fateboards.checks import check_text, is_between
from fateboards.errors import BadRule
from fateboards.words import WordReader

FIGURES = ("0", "1", "2", "3", "4", "5", "6", "7", "8")
NONE = "none"


def check_rule(rule):
    """Raises BadRule for all but a rule."""
    if not _is_rule(rule):
        raise BadRule("not a rule")


def _is_rule(value):
    if not isinstance(value, tuple) or len(value) != 3:
        return False
    births, stays, states = value
    return _are_counts(births, 1) and _are_counts(stays, 0) and is_between(states, 2, 6)


def _are_counts(value, least):
    """Whether a value is a strictly ascending tuple of integers from least to 8."""
    if not isinstance(value, tuple):
        return False
    for count in value:
        if not is_between(count, least, 8):
            return False
        least = count + 1
    return True


def write_rule(rule):
    """The text of a rule."""
    check_rule(rule)
    births, stays, states = rule
    return f"births {_write_counts(births)} stays {_write_counts(stays)} states {states}"


def _write_counts(counts):
    if not counts:
        return NONE
    return " ".join([str(count) for count in counts])


def read_rule(text):
    """The rule that a text names."""
    check_text(text)
    reader = WordReader(text)
    reader.take(("births",))
    births = _read_counts(reader, 1, "stays")
    stays = _read_counts(reader, 0, "states")
    states = int(reader.take(FIGURES[2:7]))
    reader.end()
    return (births, stays, states)


def _read_counts(reader, least, behind):
    """The ascending integers, from least on, ahead of the word behind them, which is taken too."""
    word = reader.take((NONE,) + FIGURES[least:])
    if word == NONE:
        reader.take((behind,))
        return ()
    counts = []
    while word != behind:
        counts.append(int(word))
        word = reader.take(FIGURES[counts[-1] + 1:] + (behind,))
    return tuple(counts)
