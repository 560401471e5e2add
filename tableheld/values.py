"""What several modules ask of a single value."""


def is_integer_within(value, least, most):
    """Tell whether any value is an integer from least to most."""
    # isinstance takes True and False for ints; to the document they are no integers.
    if isinstance(value, bool) or not isinstance(value, int):
        return False
    return least <= value <= most
