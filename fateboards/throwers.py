"""Throwers: boards that come again and again, and throw pieces each time."""

from fateboards.forms import has_thrower_form
from fateboards.rules import check_rule
from fateboards.throwings import throwing_of


def shows_thrower(rule, value):
    """Whether a value is a thrower of a rule."""
    check_rule(rule)
    return has_thrower_form(value) and throwing_of(rule, value) is not None
