"""What counts as an integer, and as a pair of lines: told orders and networks are both made of such pairs."""


def is_integer(value):
    """Return whether value is an integer."""
    # A bool is an int for Python, but True is not 1 here.
    return isinstance(value, int) and not isinstance(value, bool)


def is_pair(n, value):
    """Return whether value is a pair of two of n lines, the lesser one first."""
    if not isinstance(value, tuple) or len(value) != 2:
        return False
    first, second = value
    return is_integer(first) and is_integer(second) and 0 <= first < second < n
