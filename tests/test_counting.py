import inspect
import unittest
from functools import lru_cache
from itertools import combinations_with_replacement, islice

from models import Draw
from samples import H, LARGEST, S, T, all_runs, large_halls, mixed_halls, served_number, small_halls, sorted_halls
from shoeparty import errors
from shoeparty.counting import count_runs, count_served, each_run
from shoeparty.numbers import fewest_served, most_served
from shoeparty.runs import is_run


def halls_of_four():
    """Halls of four guests and four pairs, feet and pairs ascending of sizes 1 to 3, and others in no order."""
    fours = list(combinations_with_replacement((1, 2, 3), 4))
    for feet in fours[::2]:
        for pairs in fours:
            yield feet, pairs
    for guests, pairs in [(4, 4), (4, 3), (3, 4), (4, 1), (1, 4), (4, 0)]:
        yield from mixed_halls(8, 4, guests, pairs)
    yield from mixed_halls(5, LARGEST, 4, 4)


def halls_of_six():
    for guests, pairs in [(6, 6), (6, 5), (5, 6), (6, 1), (1, 6), (6, 0), (5, 5)]:
        yield from mixed_halls(4, 5, guests, pairs)
    yield (2,) * 6, (2,) * 6
    yield (3,) * 6, (2,) * 6
    yield tuple(range(1, 7)), tuple(range(6, 0, -1))


def with_part_added(counts, others, served):
    return tuple(count + (others[at - served] if at >= served else 0) for at, count in enumerate(counts))


@lru_cache(maxsize=None)
def ways(feet, sizes, many):
    """The numbers of runs in which 0, 1, .. and many guests are served, guest by guest and pair by pair."""
    counts = (0,) * (many + 1)
    if not feet:
        return (1,) + counts[1:]
    for at, foot in enumerate(feet):
        others = feet[:at] + feet[at + 1:]
        fitting = [place for place, size in enumerate(sizes) if size >= foot]
        for place in fitting:
            counts = with_part_added(counts, ways(others, sizes[:place] + sizes[place + 1:], many), 1)
        if not fitting:
            counts = with_part_added(counts, ways(others, sizes, many), 0)
    return counts


class CountTest(unittest.TestCase):
    def check(self, hall, runs):
        served = [served_number(run) for run in runs]
        counts = tuple(served.count(number) for number in range(len(hall[0]) + 1))
        with self.subTest(hall=hall):
            self.assertEqual(repr(count_runs(hall)), repr(len(runs)))
            self.assertEqual(repr(count_served(hall)), repr(counts))

    def test_small_halls_against_all_runs(self):
        for hall in [S, T, *small_halls(), *list(sorted_halls())[::2], *halls_of_four()]:
            self.check(hall, all_runs(hall))

    def test_up_to_six_guests_and_six_pairs(self):
        for hall in halls_of_six():
            counts = ways(hall[0], hall[1], len(hall[0]))
            self.assertEqual(repr(count_served(hall)), repr(counts))
            self.assertEqual(repr(count_runs(hall)), repr(sum(counts)))

    def test_six_guests_whom_all_pairs_or_none_fit(self):
        self.assertEqual(count_served(((2,) * 6, (2,) * 6)), (0, 0, 0, 0, 0, 0, 720 * 720))
        self.assertEqual(count_served(((3,) * 6, (2,) * 6)), (720, 0, 0, 0, 0, 0, 0))
        self.assertEqual(count_served(((3,) * 6, ())), (720, 0, 0, 0, 0, 0, 0))
        self.assertEqual(count_served(((LARGEST,), (LARGEST,) * 6)), (0, 6))
        self.assertEqual(count_runs(((2,) * 6, (2,) * 6)), 720 * 720)

    def test_all_runs_of_six_guests_and_five_pairs_one_by_one(self):
        hall = ((4, 1, 3, 2, 5, 2), (3, 1, 2, 4, 2))
        served = [0] * 7
        for run in each_run(hall):
            served[served_number(run)] += 1
        self.assertEqual(count_served(hall), tuple(served))
        self.assertEqual(count_runs(hall), sum(served))

    def test_seven_guests_or_pairs_are_too_many(self):
        numbers = [(7, 0), (7, 1), (7, 6), (6, 7), (1, 7), (7, 7), (8, 2), (2, 8), (20, 0), (1, 20), (20, 20)]
        for guests, pairs in numbers:
            for hall in [((2,) * guests, (2,) * pairs), ((2,) * guests, (1,) * pairs)]:
                for action in [count_runs, count_served]:
                    with self.subTest(hall=hall), self.assertRaises(errors.TooLarge) as caught:
                        action(hall)
                    self.assertIs(type(caught.exception), errors.TooLarge)
                    self.assertEqual(repr(caught.exception.bound), "6")

    def test_counts_stand_between_the_two_numbers(self):
        for hall in [S, T, H, *halls_of_six()]:
            numbers = [number for number, many in enumerate(count_served(hall)) if many]
            self.assertEqual(numbers, list(range(fewest_served(hall), most_served(hall) + 1)))


class SameCountTest(unittest.TestCase):
    def halls(self):
        return [S, T, H, *list(halls_of_four())[::7], *halls_of_six()]

    def test_guests_and_pairs_in_another_order(self):
        draw = Draw(7)
        for hall in self.halls():
            for feet, pairs in [(hall[0][::-1], hall[1][::-1]), (draw.shuffled(hall[0]), draw.shuffled(hall[1]))]:
                self.assertEqual(count_served((feet, pairs)), count_served(hall))
                self.assertEqual(count_runs((feet, pairs)), count_runs(hall))

    def test_sizes_changed_in_the_same_order(self):
        for feet, pairs in self.halls():
            for change in [lambda size: size + 9, lambda size: size * 3 + 1, lambda size: size ** 2]:
                if max(feet + pairs) < 1000:
                    changed = tuple(change(foot) for foot in feet), tuple(change(pair) for pair in pairs)
                    self.assertEqual(count_served(changed), count_served((feet, pairs)))
                    self.assertEqual(count_runs(changed), count_runs((feet, pairs)))

    def test_a_further_pair_that_fits_nobody(self):
        for feet, pairs in self.halls():
            if len(pairs) < 6 and min(feet) > 1:
                for at in range(len(pairs) + 1):
                    more = (feet, pairs[:at] + (min(feet) - 1,) + pairs[at:])
                    self.assertEqual(count_served(more), count_served((feet, pairs)))
                    self.assertEqual(count_runs(more), count_runs((feet, pairs)))


class EachRunTest(unittest.TestCase):
    def test_small_halls_against_all_runs(self):
        for hall in [S, T, *small_halls(), *list(sorted_halls())[::5], *list(halls_of_four())[::3]]:
            runs = list(each_run(hall))
            with self.subTest(hall=hall):
                self.assertEqual(repr(runs), repr(all_runs(hall)))
                self.assertEqual(runs, sorted(set(runs)))
                self.assertTrue(all([is_run(hall, run) for run in runs]))
                self.assertEqual(len(runs), count_runs(hall))

    def test_a_generator(self):
        self.assertTrue(inspect.isgeneratorfunction(each_run))
        runs = each_run(S)
        self.assertTrue(inspect.isgenerator(runs))
        self.assertEqual(next(runs), ((0, 0), (1, 1)))
        self.assertEqual(next(runs), ((0, 1), (1, -1)))
        self.assertEqual(next(runs), ((1, 1), (0, 0)))
        self.assertRaises(StopIteration, next, runs)

    def test_two_at_once(self):
        one, other = each_run(S), each_run(S)
        self.assertEqual(next(one), next(other))
        self.assertEqual(list(one), list(other))

    def test_first_runs_of_large_halls_at_once(self):
        for hall in [((1,) * 20, (1,) * 20), ((1,) * 20, (LARGEST,) * 20), ((2,) * 20, ()), *large_halls()]:
            runs = list(islice(each_run(hall), 60))
            self.assertEqual(len(runs), 60)
            self.assertEqual(runs, sorted(set(runs)))
            self.assertTrue(all([is_run(hall, run) for run in runs]))

    def test_first_run_is_that_of_the_guests_by_their_numbers(self):
        for hall in [S, T, H, *halls_of_six(), *large_halls()]:
            left, wanted = list(range(len(hall[1]))), []
            for guest, foot in enumerate(hall[0]):
                pair = min([pair for pair in left if hall[1][pair] >= foot], default=-1)
                left = [other for other in left if other != pair]
                wanted.append((guest, pair))
            self.assertEqual(next(each_run(hall)), tuple(wanted))

    def test_the_last_of_many_runs(self):
        last = None
        for last in each_run(((2,) * 5, (2,) * 5)):
            pass
        self.assertEqual(last, ((4, 4), (3, 3), (2, 2), (1, 1), (0, 0)))


if __name__ == "__main__":
    unittest.main()
