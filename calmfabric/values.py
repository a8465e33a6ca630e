"""What the tests of any values have in common."""


def is_number(value, low, high):
    """Tell whether any value is an integer from low to high."""
    # Python counts True and False among the integers, the document does not.
    return isinstance(value, int) and not isinstance(value, bool) and low <= value <= high


def is_tuple_of(value, length):
    """Tell whether any value is a tuple of this length."""
    return isinstance(value, tuple) and len(value) == length
