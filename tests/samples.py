"""Halls, runs and odd values for the tests, made without the package."""

from functools import lru_cache
from itertools import combinations_with_replacement, product

LARGEST = 10 ** 6
S = ((2, 3), (2, 4))
H = ((38, 40, 42, 44, 45), (36, 39, 41, 43, 46))
T = ((5, 5), (4, 6))


def small_halls():
    """All halls of at most three guests and two pairs, or two guests and three pairs, of sizes 1 to 3."""
    for guests, pairs in [(1, 0), (1, 1), (1, 2), (1, 3), (2, 0), (2, 1), (2, 2), (2, 3), (3, 0), (3, 1), (3, 2)]:
        for feet in product((1, 2, 3), repeat=guests):
            for sizes in product((1, 2, 3), repeat=pairs):
                yield feet, sizes


def sorted_halls():
    """Halls of three or four guests and pairs, feet and pairs ascending, of sizes 1 to 4."""
    for guests, pairs in [(3, 3), (4, 2), (2, 4), (4, 3), (3, 4)]:
        for feet in combinations_with_replacement((1, 2, 3, 4), guests):
            for sizes in combinations_with_replacement((1, 2, 3, 4), pairs):
                yield feet, sizes


def mixed_halls(many, top, guests=20, pairs=20):
    """Halls with sizes from 1 to top in no order, always the same ones."""
    state = 12345
    for _ in range(many):
        sizes = []
        for _ in range(guests + pairs):
            state = (state * 1103515245 + 12345) % 2 ** 31
            sizes.append(1 + (state >> 8) % top)
        yield tuple(sizes[:guests]), tuple(sizes[guests:])


def large_halls():
    """Halls with up to 20 guests and 20 pairs, with few and with many different sizes."""
    for top in [2, 25, LARGEST]:
        for guests, pairs in [(20, 20), (20, 0), (20, 5), (6, 20)]:
            yield from mixed_halls(5, top, guests, pairs)


def all_runs(hall):
    """All runs of a small hall, in ascending order."""
    feet, pairs = hall
    runs = []

    def go_on(run, staying, left):
        if not staying:
            runs.append(run)
        for guest in staying:
            fitting = [pair for pair in left if feet[guest] <= pairs[pair]]
            others = [other for other in staying if other != guest]
            for pair in fitting or [-1]:
                go_on(run + ((guest, pair),), others, [other for other in left if other != pair])

    go_on((), list(range(len(feet))), list(range(len(pairs))))
    return runs


def served_number(run):
    """How many guests of a run are served."""
    return sum(1 for _, pair in run if pair >= 0)


@lru_cache(maxsize=None)
def least_served(feet, sizes):
    """The least number of guests that are served in a run of a small hall, whoever leaves first."""
    found = []
    for at, foot in enumerate(feet):
        others = feet[:at] + feet[at + 1:]
        fitting = [place for place, size in enumerate(sizes) if size >= foot]
        found += [1 + least_served(others, sizes[:place] + sizes[place + 1:]) for place in fitting]
        if not fitting:
            found.append(least_served(others, sizes))
    return min(found, default=0)


def all_can_be_matched(rows):
    """Whether each row can have one of its numbers for itself alone."""
    owners = {}

    def find(at, tried):
        for number in rows[at]:
            if number not in tried:
                tried.add(number)
                if number not in owners or find(owners[number], tried):
                    owners[number] = at
                    return True
        return False

    return all(find(at, set()) for at in range(len(rows)))


def counts(hall, size):
    """The two numbers F and A of point [7]."""
    return sum(foot < size for foot in hall[0]), sum(pair >= size for pair in hall[1])


def telling_sizes(hall):
    """Sizes among which each pair of numbers F and A of the hall occurs."""
    sizes = {1, LARGEST + 1}
    for size in hall[0] + hall[1]:
        sizes |= {size, size + 1}
    return sorted(sizes)


def least_numbers(hall):
    """The least F + A, and the least number that is the greater one of F and A."""
    both = [counts(hall, size) for size in telling_sizes(hall)]
    return min(sum(two) for two in both), min(max(two) for two in both)


def all_tables(hall, number):
    """All tables of point [8] for the number, by the words of the document."""
    if number > len(hall[0]):
        return []
    words = []
    for size in sorted(set(hall[0])):
        feet, pairs = counts(hall, size)
        words.append(["feet"] * (feet >= number) + ["pairs"] * (pairs >= number))
    return list(product(*words))


def nested(kind, levels):
    """A value nested this deep: tuples, lists or dicts."""
    value = 1
    for _ in range(levels):
        value = {"in": value} if kind is dict else kind([value])
    return value


def any_values():
    """Values of every kind that point [3] calls any value; none is a hall, a run or a certificate."""
    return [
        None, True, False, 0, 1, -1, 2, 10 ** 6, 10 ** 6 + 1, 10 ** 40 - 1, 1 - 10 ** 40,
        "", "run", "table", "size", "hall", "2,3 / 2,4", "x" * 2000, "a\nb\n", " ~!\"#$&'()*+,-./:;<=>?@[]^_`{|}",
        (), [], {}, (None,), (True, False), [1, 0], (1,), ((1,),), ((1,), (), ()), ((), ()), ([], []),
        {"run": (0, 1)}, {"0": 0}, {"": {}}, {"feet": (1,), "pairs": (1,)},
        nested(tuple, 20), nested(list, 20), nested(dict, 20),
        tuple(range(1000)), list(range(1000)), {str(k): k for k in range(999)},
        ("run", None), ("table", None), ("size", None), (None, "hall"), ("", ""), ("run",), ("size", 1, 1),
    ]


def with_parts_replaced(value, stand_ins):
    """All values that come from value when one part of it (or all) is replaced, removed, doubled or made a list."""
    yield from stand_ins
    if isinstance(value, tuple):
        yield list(value)
        yield value + (None,)
        for at, part in enumerate(value):
            yield value[:at] + value[at + 1:]
            yield value[:at] + (part, part) + value[at + 1:]
            for other in with_parts_replaced(part, stand_ins):
                yield value[:at] + (other,) + value[at + 1:]
