import unittest
from itertools import permutations

from samples import H, S, T, all_runs, least_numbers, mixed_halls, served_number, small_halls, sorted_halls
from shoeparty.numbers import fewest_served, most_served
from shoeparty.runs import large_run, small_run


class ServedNumbersTest(unittest.TestCase):
    def check(self, hall, most, fewest):
        with self.subTest(hall=hall):
            self.assertEqual(repr((most_served(hall), fewest_served(hall))), repr((most, fewest)))

    def test_against_all_runs(self):
        for hall in [S, T, *small_halls(), *sorted_halls()]:
            numbers = {served_number(run) for run in all_runs(hall)}
            self.check(hall, max(numbers), min(numbers))

    def test_against_the_least_numbers(self):
        for top in [1, 2, 5, 30, 10 ** 6]:
            for guests, pairs in [(20, 20), (20, 7), (7, 20), (1, 20), (20, 1), (13, 12)]:
                for hall in mixed_halls(12, top, guests, pairs):
                    self.check(hall, *least_numbers(hall))

    def test_against_the_least_numbers_over_really_all_sizes(self):
        for feet, pairs in [((300000, 10 ** 6), (299999, 10 ** 6)), ((1, 10 ** 6, 2), (10 ** 6, 1))]:
            most = fewest = 99
            for size in range(1, 10 ** 6 + 2):
                smaller = larger = 0
                for foot in feet:
                    smaller += foot < size
                for pair in pairs:
                    larger += pair >= size
                most = min(most, smaller + larger)
                fewest = min(fewest, max(smaller, larger))
            self.check((feet, pairs), most, fewest)

    def test_by_the_other_words_of_the_document(self):
        for hall in [*small_halls(), *mixed_halls(60, 25), *mixed_halls(20, 9, 17, 11)]:
            places = zip(sorted(hall[0]), sorted(hall[1], reverse=True))
            self.assertEqual(fewest_served(hall), sum(pair >= foot for foot, pair in places))

    def test_feet_of_the_largest_size(self):
        self.check(((10 ** 6,), (10 ** 6, 10 ** 6)), 1, 1)
        self.check(((10 ** 6,), (10 ** 6 - 1, 10 ** 6 - 1)), 0, 0)
        self.check(((10 ** 6, 10 ** 6), (10 ** 6,)), 1, 1)
        self.check(((10 ** 6 - 1, 10 ** 6), (10 ** 6,) * 20), 2, 2)
        self.check(((10 ** 6, 1), (10 ** 6, 1, 1)), 2, 1)

    def test_without_pairs(self):
        for feet in [(1,), (10 ** 6,), (7, 8, 9), (5,) * 20]:
            self.check((feet, ()), 0, 0)

    def test_largest_halls(self):
        self.check(((5,) * 20, (5,) * 20), 20, 20)
        self.check(((5,) * 20, (4,) * 20), 0, 0)
        self.check(((1,) * 20, (10 ** 6,) * 20), 20, 20)
        self.check(((10 ** 6,) * 20, (10 ** 6,) * 20), 20, 20)
        self.check(((10 ** 6,) * 20, (10 ** 6,) * 19 + (1,)), 19, 19)
        self.check((tuple(range(1, 21)), tuple(range(1, 21))), 20, 10)
        self.check((tuple(range(20, 0, -1)), tuple(range(2, 22))), 20, 11)
        self.check(((5,) * 20, (5,)), 1, 1)
        self.check(((5,), (5,) * 20), 1, 1)


class GuaranteesTest(unittest.TestCase):
    def test_each_number_between_is_that_of_some_run_and_no_other(self):
        for hall in [S, T, *small_halls(), *sorted_halls()]:
            numbers = {served_number(run) for run in all_runs(hall)}
            self.assertEqual(numbers, set(range(fewest_served(hall), most_served(hall) + 1)), hall)

    def test_smallest_pairs_serve_the_most_in_every_order(self):
        for hall in [S, T, *small_halls(), *sorted_halls()]:
            for order in permutations(range(len(hall[0]))):
                self.assertEqual(served_number(small_run(hall, order)), most_served(hall), (hall, order))
        for hall in [H, *mixed_halls(40, 25)]:
            guests = len(hall[0])
            for order in [range(guests), range(guests - 1, -1, -1), [k * 7 % guests for k in range(guests)]]:
                self.assertEqual(served_number(small_run(hall, tuple(order))), most_served(hall))

    def test_largest_pairs_in_an_order_of_ascending_feet_serve_the_fewest(self):
        for hall in [S, T, H, *small_halls(), *sorted_halls(), *mixed_halls(40, 25)]:
            feet = hall[0]
            for turn in [1, -1]:
                order = tuple(sorted(range(len(feet)), key=lambda guest: (feet[guest], turn * guest)))
                self.assertEqual(served_number(large_run(hall, order)), fewest_served(hall), hall)

    def check_more(self, hall, larger):
        for number in [most_served, fewest_served]:
            self.assertIn(number(larger) - number(hall), (0, 1), (number, hall, larger))

    def test_a_further_pair_or_guest_changes_both_numbers_by_at_most_one(self):
        for hall in [S, T, *small_halls(), *list(sorted_halls())[::5]]:
            for size in range(1, 6):
                self.check_more(hall, (hall[0] + (size,), hall[1]))
                self.check_more(hall, (hall[0], hall[1] + (size,)))
        for hall in mixed_halls(20, 25, 19, 19):
            for size in [1, *range(2, 27, 3), 10 ** 6]:
                self.check_more(hall, (hall[0] + (size,), hall[1]))
                self.check_more(hall, (hall[0], (size,) + hall[1]))


if __name__ == "__main__":
    unittest.main()
