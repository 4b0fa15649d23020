"""Values: shelves with pairs, and porters that hand out the pairs of a shelf."""

from shoeparty.bounds import MAX_SHELF
from shoeparty.errors import BadFoot, BadShelf, Missing, NoPlace, TooManyPairs
from shoeparty.halls import is_number_from, is_size, is_tuple


def _is_tuple_of_sizes(value):
    return is_tuple(value, 0, MAX_SHELF) and all([is_size(size) for size in value])


def _first_missing(sizes, wanted):
    # Both are sorted, so the first size that is wanted too often is the smallest one.
    for size in wanted:
        if wanted.count(size) > sizes.count(size):
            return size
    return None


class Shelf:
    """A value: pairs on a shelf, sorted by their sizes."""

    def __init__(self, sizes):
        if not _is_tuple_of_sizes(sizes):
            raise BadShelf(sizes)
        self.sizes = tuple(sorted(sizes))

    def __getitem__(self, value):
        if not is_number_from(value, 0, len(self.sizes) - 1):
            raise NoPlace(value)
        return self.sizes[value]

    def __iter__(self):
        # Without this method, Python would loop over a shelf by way of __getitem__.
        raise TypeError("a shelf is not iterated over")

    def __add__(self, other):
        if len(self.sizes) + len(other.sizes) > MAX_SHELF:
            raise TooManyPairs()
        return Shelf(self.sizes + other.sizes)

    def __sub__(self, other):
        missing = _first_missing(self.sizes, other.sizes)
        if missing is not None:
            raise Missing(missing)
        left = list(self.sizes)
        for size in other.sizes:
            left.remove(size)
        return Shelf(tuple(left))

    def __contains__(self, value):
        return isinstance(value, Shelf) and _first_missing(self.sizes, value.sizes) is None

    def __len__(self):
        return len(self.sizes)

    def __str__(self):
        return "".join([f"{size:>8,}" for size in self.sizes])

    def __eq__(self, other):
        return isinstance(other, Shelf) and self.sizes == other.sizes


class Porter:
    """Hands out the pairs of a shelf; left has those that are left, served counts the others."""

    def __init__(self, shelf):
        if not isinstance(shelf, Shelf):
            raise BadShelf(shelf)
        self.left = shelf
        self.served = 0

    def __call__(self, value):
        if not is_size(value):
            raise BadFoot(value)
        fitting = [size for size in self.left.sizes if size >= value]
        if not fitting:
            return None
        # A new shelf, as others may hold the one that was left before.
        self.left = self.left - Shelf((fitting[0],))
        self.served += 1
        return fitting[0]
