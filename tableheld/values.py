"""What several modules ask of a single value."""


def is_integer(value):
    """Tell whether any value is an integer."""
    # isinstance takes True and False for ints; to the document they are no integers.
    return isinstance(value, int) and not isinstance(value, bool)


def is_integer_within(value, least, most):
    """Tell whether any value is an integer from least to most."""
    return is_integer(value) and least <= value <= most


def is_place(value, many):
    """Tell whether any value is one of so many places, which are counted from 0."""
    return is_integer_within(value, 0, many - 1)
