"""What several modules ask of integers and strings."""

LETTERS = "abcdefghijklmnopqrstuvwxyz"
FIGURES = "0123456789"


def is_between(value, low, high):
    """Whether value is an integer (a bool is none) from low to high."""
    return isinstance(value, int) and not isinstance(value, bool) and low <= value <= high


def is_made_of(value, signs, most):
    """Whether value is a string of 1 to most signs, each of them one of the given signs."""
    return isinstance(value, str) and 1 <= len(value) <= most and all([sign in signs for sign in value])
