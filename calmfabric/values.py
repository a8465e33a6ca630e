"""What the tests of any values have in common."""


def is_number(value, low, high):
    """Tell whether any value is an integer from low to high."""
    return is_from(value, low) and value <= high


def is_from(value, low):
    """Tell whether any value is an integer from low on."""
    # Python counts True and False among the integers, the document does not.
    return isinstance(value, int) and not isinstance(value, bool) and low <= value


def is_tuple_of(value, length):
    """Tell whether any value is a tuple of this length."""
    return isinstance(value, tuple) and len(value) == length


def are_below(value, many):
    """Tell whether any value is a tuple of integers from 0 to less than so many."""
    return isinstance(value, tuple) and all([is_number(k, 0, many - 1) for k in value])


def is_ascending_below(value, many):
    """Tell whether any value is an ascending tuple of integers from 0 to less than so many."""
    return are_below(value, many) and all([value[k] < value[k + 1] for k in range(len(value) - 1)])
