"""The kinds of plain values that the program tells apart."""

MOST_LETTERS = 8


def is_int(value):
    """Whether a value is an integer: True and False are none, though Python counts them as such."""
    return isinstance(value, int) and not isinstance(value, bool)


def is_name(value):
    """Whether a value is a name, that is one to eight letters from a to z, other than self."""
    if not isinstance(value, str) or len(value) > MOST_LETTERS or value == "self":
        return False
    # Only the letters from a to z are ASCII, letters and lower at once.
    return value.isascii() and value.isalpha() and value.islower()


def is_int_within(value, least, most):
    """Whether a value is an integer from the one number to the other."""
    return is_int(value) and least <= value <= most
