"""How many guests are served at best and at worst, with evidence for both."""

from shoeparty.bounds import MAX_SIZE
from shoeparty.halls import counts_at, is_number_from, is_tuple
from shoeparty.runs import is_run, large_run, served_by, small_run


def _foot_sizes(hall):
    return sorted(set(hall[0]))


def _deciding_sizes(hall):
    # From above one foot up to the next larger one, and above all feet, the number of
    # feet stays and the number of pairs only falls: the last of these sizes is enough.
    return _foot_sizes(hall) + [MAX_SIZE + 1]


def most_served(hall):
    """Return the greatest number of guests that are served in a run."""
    return min([sum(counts_at(hall, size)) for size in _deciding_sizes(hall)])


def fewest_served(hall):
    """Return the least number of guests that are served in a run."""
    return min([max(counts_at(hall, size)) for size in _deciding_sizes(hall)])


def order_by_feet(hall):
    """Return the order in which the guests with smaller feet leave first."""
    ranks = sorted([(foot, guest) for guest, foot in enumerate(hall[0])])
    return tuple([guest for _, guest in ranks])


def _word_at(hall, number, size):
    feet, _ = counts_at(hall, size)
    if feet >= number:
        return "feet"
    # Where number is at most fewest_served, one of the two words may always stand.
    return "pairs"


def sure_certificate(hall, number):
    """Return a run that serves fewer than number guests, or a table that excludes it."""
    if number > fewest_served(hall):
        return "run", large_run(hall, order_by_feet(hall))
    return "table", tuple([_word_at(hall, number, size) for size in _foot_sizes(hall)])


def possible_certificate(hall, number):
    """Return a run that serves at least number guests, or a size that excludes it."""
    excluding = [size for size in _deciding_sizes(hall) if sum(counts_at(hall, size)) < number]
    if excluding:
        return "size", excluding[0]
    return "run", small_run(hall, tuple(range(len(hall[0]))))


def _may_stand(hall, number, size, word):
    feet, pairs = counts_at(hall, size)
    if word == "feet":
        return feet >= number
    return word == "pairs" and pairs >= number


def _is_table(hall, number, value):
    sizes = _foot_sizes(hall)
    if number > len(hall[0]) or not is_tuple(value, len(sizes), len(sizes)):
        return False
    return all([_may_stand(hall, number, size, word) for size, word in zip(sizes, value)])


def sure_certificate_holds(hall, number, value):
    """Return whether value is a sure certificate for the hall and the number."""
    if not is_tuple(value, 2, 2):
        return False
    kind, proof = value
    if kind == "run":
        return is_run(hall, proof) and len(served_by(hall, proof)) < number
    return kind == "table" and _is_table(hall, number, proof)


def possible_certificate_holds(hall, number, value):
    """Return whether value is a possible certificate for the hall and the number."""
    if not is_tuple(value, 2, 2):
        return False
    kind, proof = value
    if kind == "run":
        return is_run(hall, proof) and len(served_by(hall, proof)) >= number
    if kind != "size" or not is_number_from(proof, 1, MAX_SIZE + 1):
        return False
    return sum(counts_at(hall, proof)) < number
