"""Edits: what each of them makes of a hall, and batches of them."""

from shoeparty.bounds import BATCH, MAX_GUESTS, MAX_PAIRS
from shoeparty.errors import BadEdit, BadEdits, BadFoot, BadSize, LastGuest, NoGuest, NoPair
from shoeparty.errors import TooManyGuests, TooManyPairs
from shoeparty.halls import is_number_from, is_size, is_tuple


def _with_guest(hall, foot):
    feet, pairs = hall
    if not is_size(foot):
        raise BadFoot(foot)
    if len(feet) >= MAX_GUESTS:
        raise TooManyGuests()
    return feet + (foot,), pairs


def _without_guest(hall, guest):
    feet, pairs = hall
    if not is_number_from(guest, 0, len(feet) - 1):
        raise NoGuest(guest)
    if len(feet) == 1:
        raise LastGuest()
    return feet[:guest] + feet[guest + 1:], pairs


def _with_pair(hall, size):
    feet, pairs = hall
    if not is_size(size):
        raise BadSize(size)
    if len(pairs) >= MAX_PAIRS:
        raise TooManyPairs()
    return feet, pairs + (size,)


def _without_pair(hall, pair):
    feet, pairs = hall
    if not is_number_from(pair, 0, len(pairs) - 1):
        raise NoPair(pair)
    return feet, pairs[:pair] + pairs[pair + 1:]


CHANGES = {"come": _with_guest, "leave": _without_guest, "put": _with_pair, "take": _without_pair}


def hall_after(hall, name, value):
    """Return the hall after the edit of this name with this value, which may be any value."""
    change = CHANGES[name]
    return change(hall, value)


def _is_edit(item):
    return is_tuple(item, 2, 2) and isinstance(item[0], str) and item[0] in CHANGES


def batch_of(value):
    """Return the edits of a batch, which may be any value, as a tuple of their own."""
    if not isinstance(value, (list, tuple)) or len(value) > BATCH:
        raise BadEdits()
    for index, item in enumerate(value):
        if not _is_edit(item):
            raise BadEdit(index)
    return tuple(value)
