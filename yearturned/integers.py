"""What counts as an integer."""


def is_integer(value, low, high):
    """Whether a value is an integer from low to high; True and False are none."""
    return isinstance(value, int) and not isinstance(value, bool) and low <= value <= high
