"""All runs of a hall: how many there are, and one after another."""

from shoeparty.bounds import SMALL
from shoeparty.errors import TooLarge
from shoeparty.runs import pairs_for


def _without(values, value):
    return tuple([other for other in values if other != value])


def _ways_on(hall, ways):
    # One more guest leaves. Runs that have led to the same guests and pairs go on alike,
    # so they are counted together.
    further = {}
    for (staying, left), many in ways.items():
        for guest in staying:
            for pair in pairs_for(hall, guest, left):
                state = (_without(staying, guest), _without(left, pair))
                further[state] = further.get(state, 0) + many
    return further


def count_served(hall):
    """Return the numbers of runs in which exactly 0, 1, .. and all guests are served."""
    feet, pairs = hall
    if len(feet) > SMALL or len(pairs) > SMALL:
        raise TooLarge(SMALL)
    ways = {(tuple(range(len(feet))), tuple(range(len(pairs)))): 1}
    for _ in feet:
        ways = _ways_on(hall, ways)
    counts = [0] * (len(feet) + 1)
    for (_, left), many in ways.items():
        # Each guest who is served takes one pair.
        counts[len(pairs) - len(left)] += many
    return tuple(counts)


def count_runs(hall):
    """Return the number of runs."""
    return sum(count_served(hall))


def _runs_after(hall, begun, staying, left):
    if not staying:
        yield begun
    for guest in staying:
        others = _without(staying, guest)
        for pair in pairs_for(hall, guest, left):
            run = begun + ((guest, pair),)
            rest = _without(left, pair)
            yield from _runs_after(hall, run, others, rest)


def each_run(hall):
    """Yield the runs in ascending order, each as soon as it is asked for."""
    feet, pairs = hall
    staying = tuple(range(len(feet)))
    left = tuple(range(len(pairs)))
    yield from _runs_after(hall, (), staying, left)
