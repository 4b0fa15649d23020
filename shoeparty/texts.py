"""Texts of halls."""

from shoeparty.bounds import MAX_GUESTS, MAX_PAIRS, MAX_SIZE
from shoeparty.errors import BadText
from shoeparty.halls import is_size

SLASH = "/"
NO_PAIRS = "-"
WORDS = 3


def number_in(word, digits):
    """Return the number that the word has in decimal, with at most so many digits, or None."""
    # The length is asked before int, which refuses texts of very many digits.
    if len(word) > digits or not word.isascii() or not word.isdigit():
        return None
    number = int(word)
    if str(number) != word:
        return None
    return number


def _sizes_in(word, most):
    sizes = [number_in(text, len(str(MAX_SIZE))) for text in word.split(",")]
    if len(sizes) > most or not all([is_size(size) for size in sizes]):
        return None
    return tuple(sizes)


def _part_in(word, index):
    # None means that the word is wrong at this place.
    if index == 0:
        return _sizes_in(word, MAX_GUESTS)
    if index == 1 and word == SLASH:
        return word
    if index == 2 and word == NO_PAIRS:
        return ()
    if index == 2:
        return _sizes_in(word, MAX_PAIRS)
    return None


def _sizes_text(sizes):
    return ",".join([str(size) for size in sizes])


def hall_text(hall):
    """Return the text of the hall."""
    feet, pairs = hall
    return f"{_sizes_text(feet)} {SLASH} {_sizes_text(pairs) or NO_PAIRS}"


def parse_hall(value):
    """Return the hall whose text the value is."""
    if not isinstance(value, str):
        raise BadText(None)
    parts = []
    for index, word in enumerate(value.split(" ")):
        part = _part_in(word, index)
        if part is None:
            raise BadText(index)
        parts.append(part)
    if len(parts) < WORDS:
        raise BadText(len(parts))
    feet, _, pairs = parts
    return feet, pairs
