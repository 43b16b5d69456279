"""What integers, numbers and texts are, for all functions that take some."""

from fateboards.errors import BadNumber, NotText

# No place is farther from (0, 0), and no generation is later.
FAR = 10 ** 60


def is_between(value, low, high):
    """Whether a value is an integer from low to high."""
    # Python takes True and False for 1 and 0; here they are not integers.
    if isinstance(value, bool) or not isinstance(value, int):
        return False
    return low <= value <= high


def check_number(value, low, high):
    """Raises BadNumber for all but an integer from low to high."""
    if not is_between(value, low, high):
        raise BadNumber(f"not an integer from {low} to {high}")


def check_text(value):
    """Raises NotText for all but a string."""
    if not isinstance(value, str):
        raise NotText("not a string")
