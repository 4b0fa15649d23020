"""Halls: tuples of the feet of the guests and the sizes of the pairs."""

from shoeparty.bounds import MAX_GUESTS, MAX_PAIRS, MAX_SIZE


def is_number(value):
    """Return whether value is a number: True and False are ints for Python, but no numbers."""
    return isinstance(value, int) and not isinstance(value, bool)


def is_number_from(value, low, high):
    """Return whether value is a number from low to high."""
    return is_number(value) and low <= value <= high


def is_size(value):
    """Return whether value is a size of a foot or a pair."""
    return is_number_from(value, 1, MAX_SIZE)


def is_tuple(value, least, most):
    """Return whether value is a tuple of least to most items."""
    return isinstance(value, tuple) and least <= len(value) <= most


def _first_wrong(values):
    for at, value in enumerate(values):
        if not is_size(value):
            return at
    return None


def hall_error(value):
    """Return None if value is a hall, otherwise where it is wrong and in what."""
    if not is_tuple(value, 2, 2):
        return None, "hall"
    feet, pairs = value
    if not is_tuple(feet, 1, MAX_GUESTS):
        return None, "feet"
    guest = _first_wrong(feet)
    if guest is not None:
        return guest, "foot"
    if not is_tuple(pairs, 0, MAX_PAIRS):
        return None, "pairs"
    pair = _first_wrong(pairs)
    if pair is not None:
        return pair, "pair"
    return None


def is_hall(value):
    """Return whether value is a hall."""
    return hall_error(value) is None


def counts_at(hall, size):
    """Return how many feet are less than size, and how many pairs are at least size."""
    feet, pairs = hall
    smaller = [foot for foot in feet if foot < size]
    larger = [pair for pair in pairs if pair >= size]
    return len(smaller), len(larger)
