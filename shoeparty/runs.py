"""Runs: who leaves when, and with which pair."""

from shoeparty.halls import is_number, is_tuple

NO_PAIR = -1


def _fitting(hall, guest, left):
    feet, pairs = hall
    return [pair for pair in left if pairs[pair] >= feet[guest]]


def pairs_for(hall, guest, left):
    """Return the pairs of left of which the guest takes any one: NO_PAIR alone if none fits."""
    return _fitting(hall, guest, left) or [NO_PAIR]


def _may_leave(hall, staying, left, item):
    if not is_tuple(item, 2, 2):
        return False
    guest, pair = item
    # The kinds are asked first: True would be found in a list that has 1.
    if not is_number(guest) or not is_number(pair) or guest not in staying:
        return False
    fitting = _fitting(hall, guest, left)
    if fitting:
        return pair in fitting
    return pair == NO_PAIR


def is_run(hall, value):
    """Return whether value is a run of the hall."""
    feet, pairs = hall
    if not is_tuple(value, len(feet), len(feet)):
        return False
    staying = list(range(len(feet)))
    left = list(range(len(pairs)))
    for item in value:
        if not _may_leave(hall, staying, left, item):
            return False
        guest, pair = item
        staying.remove(guest)
        if pair != NO_PAIR:
            left.remove(pair)
    return True


def served_by(hall, run):
    """Return the ascending tuple of the guests that are served in the run."""
    return tuple(sorted([guest for guest, pair in run if pair != NO_PAIR]))


def left_by(hall, run):
    """Return the ascending tuple of the pairs that nobody took in the run."""
    taken = [pair for _, pair in run]
    return tuple([pair for pair in range(len(hall[1])) if pair not in taken])


def run_by_liking(hall, order, liking):
    """Return what these guests take, in this order: each the first pair of liking that fits and is left."""
    left = list(liking)
    run = []
    for guest in order:
        fitting = _fitting(hall, guest, left)
        if fitting:
            run.append((guest, fitting[0]))
            left.remove(fitting[0])
        else:
            run.append((guest, NO_PAIR))
    return tuple(run)


def small_run(hall, order):
    """Return the run in this order in which each takes the smallest pair that fits."""
    ranks = sorted([(size, pair) for pair, size in enumerate(hall[1])])
    return run_by_liking(hall, order, [pair for _, pair in ranks])


def large_run(hall, order):
    """Return the run in this order in which each takes the largest pair that fits."""
    # Negative sizes, not a reversed list: of equal pairs the smaller number comes first.
    ranks = sorted([(-size, pair) for pair, size in enumerate(hall[1])])
    return run_by_liking(hall, order, [pair for _, pair in ranks])
