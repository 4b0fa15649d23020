"""Further questions: who can go without, what can be left, and what is needed."""

from shoeparty.bounds import MAX_SIZE
from shoeparty.numbers import fewest_served, order_by_feet
from shoeparty.runs import NO_PAIR, large_run, left_by, run_by_liking, served_by


def _by_size(hall, pairs):
    ranks = sorted([(hall[1][pair], pair) for pair in pairs])
    return [pair for _, pair in ranks]


def _large_then_small(hall, many):
    # The guests leave by their feet: the first ones take the largest pair, the others the smallest.
    order = order_by_feet(hall)
    begun = large_run(hall, order)[:many]
    return begun + run_by_liking(hall, order[many:], _by_size(hall, left_by(hall, begun)))


def run_with(hall, number):
    """Return a run in which exactly number guests are served, or None."""
    # From most_served down to fewest_served: one guest more who takes the largest pair
    # leaves one other pair to those behind, so that at most one of them more goes without.
    for many in range(len(hall[0]) + 1):
        run = _large_then_small(hall, many)
        if len(served_by(hall, run)) == number:
            return run
    return None


def _run_against(hall, others, guest):
    # The others leave before the guest, by their feet, and rather take what fits the guest,
    # the smallest first: if they can take all such pairs in some way, they do so in this one.
    feet, pairs = hall
    fitting = [pair for pair, size in enumerate(pairs) if size >= feet[guest]]
    smaller = [pair for pair, size in enumerate(pairs) if size < feet[guest]]
    order = [other for other in order_by_feet(hall) if other in others]
    return run_by_liking(hall, order + [guest], _by_size(hall, fitting) + smaller)


def run_without(hall, guest):
    """Return a run in which this guest goes without, or None."""
    others = [other for other in range(len(hall[0])) if other != guest]
    run = _run_against(hall, others, guest)
    if run[-1] != (guest, NO_PAIR):
        return None
    return run


def run_leaving(hall, pair):
    """Return a run after which this pair is left, or None."""
    others = [other for other in range(len(hall[1])) if other != pair]
    # Who takes the smallest of the other pairs leaves the most to those behind, and those
    # with larger feet, whom this pair may not fit, leave last.
    run = run_by_liking(hall, order_by_feet(hall), _by_size(hall, others) + [pair])
    if pair not in left_by(hall, run):
        return None
    return run


def can_miss(hall, order, guest):
    """Return whether this guest goes without in some run in this order."""
    # The order of those before does not matter: who must take a pair that was meant for
    # another one takes it off the guest just as well.
    before = order[:order.index(guest)]
    return _run_against(hall, before, guest)[-1] == (guest, NO_PAIR)


def fewest_more(hall, number):
    """Return the least number of further pairs with which each run serves number guests, or None."""
    feet, pairs = hall
    for many in range(len(feet) + 1):
        if fewest_served((feet, pairs + (MAX_SIZE,) * many)) >= number:
            return many
    return None


def fewest_larger(hall, number):
    """Return the least number of exchanged pairs with which each run serves number guests, or None."""
    feet, pairs = hall
    sizes = tuple(sorted(pairs))
    for many in range(len(sizes) + 1):
        if fewest_served((feet, sizes[many:] + (MAX_SIZE,) * many)) >= number:
            return many
    return None
