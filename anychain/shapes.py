"""Questions about the shape of values that may be anything at all."""

MOST_SIGNS = 30


def is_integer(value, low, high):
    """Tell whether a value is an integer from low to high; True and False are none."""
    return type(value) is int and low <= value <= high


def is_row(value, low, high):
    """Tell whether a value is a tuple of low to high values."""
    return type(value) is tuple and low <= len(value) <= high


def is_word(value, signs, low, high):
    """Tell whether a value is a word over so many signs that has low to high of them."""
    return is_row(value, low, high) and all([is_integer(sign, 0, signs - 1) for sign in value])


def is_written(value):
    """Tell whether a value is a tuple of integers from 0 on."""
    return type(value) is tuple and all([type(sign) is int and sign >= 0 for sign in value])


def is_ascending(values):
    """Tell whether each value of a tuple is less than the next one."""
    return all([values[at] < values[at + 1] for at in range(len(values) - 1)])


def is_set_of_states(value, states):
    """Tell whether a value is an ascending tuple of states, which are numbered from 0."""
    if type(value) is not tuple:
        return False
    # Only numbers are compared: other values may have no order.
    return all([is_integer(state, 0, states - 1) for state in value]) and is_ascending(value)
