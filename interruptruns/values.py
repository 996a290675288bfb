"""What is an integer, and what is a name."""

LETTERS = "abcdefghijklmnopqrstuvwxyz"
MOST_LETTERS = 8


def is_integer(value):
    """Return whether the value is an integer; True and False are none."""
    return isinstance(value, int) and not isinstance(value, bool)


def is_count(value):
    """Return whether the value is an integer that is not negative."""
    return is_integer(value) and value >= 0


def is_between(value, least, most):
    """Return whether the value is an integer within these bounds."""
    return is_integer(value) and least <= value <= most


def is_name(value):
    """Return whether the value is a name."""
    if not isinstance(value, str) or not 1 <= len(value) <= MOST_LETTERS:
        return False
    return all([letter in LETTERS for letter in value])
