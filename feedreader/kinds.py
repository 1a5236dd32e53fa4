"""Tests of plain kinds of values, shared by the other files."""


def is_int(value):
    """Whether it is an integer: an int that is not a bool."""
    return isinstance(value, int) and not isinstance(value, bool)


def is_within(value, low, high):
    """Whether it is an integer from low to high."""
    return is_int(value) and low <= value <= high


def consists_of(text, signs):
    """Whether each character of the text is one of the signs."""
    return all([sign in signs for sign in text])


def is_tidy(value, least, most):
    """Whether it is a line of so many characters without spaces at its ends."""
    if not isinstance(value, str) or not least <= len(value) <= most:
        return False
    return "\n" not in value and value == value.strip(" ")
