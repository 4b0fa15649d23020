import unittest
from itertools import combinations, combinations_with_replacement, permutations

from samples import (
    H, LARGEST, S, all_can_be_matched, all_runs, large_halls, least_numbers, least_served, mixed_halls, served_number,
    small_halls, sorted_halls,
)
from shoeparty.more import can_miss, fewest_larger, fewest_more, run_leaving, run_with, run_without
from shoeparty.numbers import fewest_served, most_served
from shoeparty.runs import is_run, left_by

EDGES = [
    ((1,), ()), ((LARGEST,), (LARGEST,)), ((LARGEST,), (LARGEST - 1,)), ((LARGEST,) * 20, (LARGEST,) * 20),
    ((1,) * 20, (1,) * 20), ((2,) * 20, (1,) * 20), ((1,) * 20, ()), ((1,) * 10 + (3,) * 10, (2,) * 10 + (3,) * 10),
]


def fitting(hall, guest):
    """The pairs that fit the guest."""
    return [pair for pair, size in enumerate(hall[1]) if size >= hall[0][guest]]


def pairs_can_be_taken(hall, pairs, guests):
    """Whether these guests can take all of these pairs."""
    return all_can_be_matched([[guest for guest in guests if hall[0][guest] <= hall[1][pair]] for pair in pairs])


class RunWithTest(unittest.TestCase):
    def test_small_halls(self):
        for hall in [*small_halls(), S]:
            numbers = {served_number(run) for run in all_runs(hall)}
            for number in [*range(len(hall[0]) + 3), 20, 21, 999, 1000]:
                run = run_with(hall, number)
                with self.subTest(hall=hall, number=number):
                    self.assertEqual(run is None, number not in numbers)
                    if run is not None:
                        self.assertIn(run, all_runs(hall))
                        self.assertEqual(served_number(run), number)

    def test_large_halls(self):
        for hall in [*large_halls(), *mixed_halls(10, 50), *EDGES]:
            most, fewest = least_numbers(hall)
            self.assertEqual((most_served(hall), fewest_served(hall)), (most, fewest))
            for number in [*range(len(hall[0]) + 2), 1000]:
                run = run_with(hall, number)
                with self.subTest(hall=hall, number=number):
                    if fewest <= number <= most:
                        self.assertIs(is_run(hall, run), True)
                        self.assertEqual(served_number(run), number)
                    else:
                        self.assertIsNone(run)

    def test_numbers_far_apart(self):
        hall = (tuple(range(1, 21)), tuple(range(1, 21)))
        self.assertEqual(least_numbers(hall), (20, 10))
        for number in range(10, 21):
            self.assertEqual(served_number(run_with(hall, number)), number)


class RunWithoutTest(unittest.TestCase):
    def check(self, hall, guest, possible):
        run = run_without(hall, guest)
        with self.subTest(hall=hall, guest=guest):
            self.assertEqual(run is not None, possible)
            if run is not None:
                self.assertIs(is_run(hall, run), True)
                self.assertIn((guest, -1), run)

    def test_small_halls(self):
        for hall in [*small_halls(), *sorted_halls()]:
            missed = {guest for run in all_runs(hall) for guest, pair in run if pair == -1}
            for guest in range(len(hall[0])):
                self.check(hall, guest, guest in missed)

    def test_large_halls(self):
        answers = []
        for hall in [*large_halls(), *mixed_halls(10, 50), *EDGES]:
            for guest in range(len(hall[0])):
                others = [other for other in range(len(hall[0])) if other != guest]
                answers.append(pairs_can_be_taken(hall, fitting(hall, guest), others))
                self.check(hall, guest, answers[-1])
        self.assertGreater(answers.count(True), 50)
        self.assertGreater(answers.count(False), 50)

    def test_halls_without_pairs(self):
        for feet in [(1,), (LARGEST,), (2, 1, 2), (1,) * 20]:
            for guest in range(len(feet)):
                self.check((feet, ()), guest, True)

    def test_others_who_fit_in_one_way_only(self):
        # The guest of foot 5 must take the pair of 5, those with smaller feet the others.
        self.check(((3, 5, 4, 3), (5, 4, 3)), 0, True)
        self.check(((3, 5, 4), (5, 4, 3)), 0, False)
        self.check(((1,), (1,)), 0, False)
        self.check(((2, 1), (2, 1)), 0, True)
        self.check(((2, 1), (2, 1)), 1, False)


class RunLeavingTest(unittest.TestCase):
    def check(self, hall, pair, possible):
        run = run_leaving(hall, pair)
        with self.subTest(hall=hall, pair=pair):
            self.assertEqual(run is not None, possible)
            if run is not None:
                self.assertIs(is_run(hall, run), True)
                self.assertNotIn(pair, [taken for _, taken in run])
                self.assertIn(pair, left_by(hall, run))

    def test_small_halls(self):
        for hall in [*small_halls(), *sorted_halls()]:
            left = {pair for run in all_runs(hall) for pair in left_by(hall, run)}
            for pair in range(len(hall[1])):
                self.check(hall, pair, pair in left)

    def test_large_halls(self):
        answers = []
        for hall in [*large_halls(), *mixed_halls(10, 50), *EDGES]:
            for pair, size in enumerate(hall[1]):
                guests = [guest for guest, foot in enumerate(hall[0]) if foot <= size]
                rows = [[other for other in fitting(hall, guest) if other != pair] for guest in guests]
                answers.append(all_can_be_matched(rows))
                self.check(hall, pair, answers[-1])
        self.assertGreater(answers.count(True), 50)
        self.assertGreater(answers.count(False), 50)

    def test_more_guests_than_the_other_pairs(self):
        self.check(((1, 1), (1, 1)), 0, False)
        self.check(((1, 9), (1, 2, 3)), 2, True)
        self.check(((9, 2, 1), (1, 2, 1)), 1, False)
        self.check(((9, 2, 1), (1, 2, 9)), 1, True)
        self.check(((9,), (8,)), 0, True)


class CanMissTest(unittest.TestCase):
    def check(self, hall, order, guest, possible):
        with self.subTest(hall=hall, order=order, guest=guest):
            self.assertIs(can_miss(hall, order, guest), possible)

    def test_small_halls(self):
        for hall in [*small_halls(), *sorted_halls()]:
            missed = set()
            for run in all_runs(hall):
                order = tuple(guest for guest, _ in run)
                missed |= {(order, guest) for guest, pair in run if pair == -1}
            for order in permutations(range(len(hall[0]))):
                for guest in order:
                    self.check(hall, order, guest, (order, guest) in missed)

    def test_large_halls(self):
        answers = []
        for hall in [*large_halls(), *mixed_halls(10, 50), *EDGES]:
            order = tuple(range(len(hall[0])))
            for turned in [order, order[::-1], order[1::2] + order[::2]]:
                for at, guest in enumerate(turned):
                    answers.append(pairs_can_be_taken(hall, fitting(hall, guest), turned[:at]))
                    self.check(hall, turned, guest, answers[-1])
        self.assertGreater(answers.count(True), 200)
        self.assertGreater(answers.count(False), 200)

    def test_first_last_and_between(self):
        # Ten pairs fit the last guest; the others can take them if at least ten leave before.
        hall = ((1,) * 19 + (2,), (1,) * 10 + (2,) * 10)
        for at in range(20):
            order = tuple(range(at)) + (19,) + tuple(range(at, 19))
            self.check(hall, order, 19, at >= 10)
        # Nobody can take the only pair that fits the first guest, whoever leaves before.
        hall = ((2,) + (3,) * 19, (2,))
        for at in range(20):
            order = tuple(range(1, at + 1)) + (0,) + tuple(range(at + 1, 20))
            self.check(hall, order, 0, False)

    def test_without_pairs(self):
        feet = tuple(range(1, 21))
        for guest in [0, 10, 19]:
            self.check((feet, ()), tuple(range(20)), guest, True)
        self.check(((1,), ()), (0,), 0, True)
        self.check(((1,), (1,)), (0,), 0, False)

    def test_one_who_must_take_a_pair_meant_for_another(self):
        # The guests of feet 1 and 3 leave first; whatever the first one takes, no pair is safe.
        hall = ((2, 1, 3), (3, 2))
        self.check(hall, (1, 2, 0), 0, True)
        self.check(hall, (2, 1, 0), 0, True)
        self.check(hall, (1, 0, 2), 0, False)


class FewestMoreTest(unittest.TestCase):
    def least(self, hall, number):
        # A pair is as good as one of the next smaller foot, so that the feet are sizes enough.
        feet, pairs = tuple(sorted(hall[0])), hall[1]
        for many in range(len(feet) + 2):
            for further in combinations_with_replacement(sorted({1, *feet, LARGEST}), many):
                if least_served(feet, tuple(sorted(pairs + further))) >= number:
                    return many
        return None

    def test_small_halls(self):
        for hall in small_halls():
            for number in range(len(hall[0]) + 2):
                with self.subTest(hall=hall, number=number):
                    self.assertEqual(repr(fewest_more(hall, number)), repr(self.least(hall, number)))

    def test_large_halls(self):
        for hall in [*large_halls(), *mixed_halls(10, 50), *EDGES, H]:
            feet, pairs = hall
            for number in range(len(feet) + 1):
                many = fewest_more(hall, number)
                with self.subTest(hall=hall, number=number):
                    self.assertGreaterEqual(least_numbers((feet, pairs + (LARGEST,) * many))[1], number)
                    if many > 0:
                        self.assertLess(least_numbers((feet, pairs + (LARGEST,) * (many - 1)))[1], number)
                    self.assertGreaterEqual(many, 0)

    def test_more_than_all_guests(self):
        for hall in [S, H, ((1,), ()), ((1,), (1,) * 20), ((1,) * 20, (LARGEST,) * 20)]:
            for number in [len(hall[0]) + 1, 21, 999, 1000]:
                self.assertIsNone(fewest_more(hall, number))

    def test_nothing_is_needed(self):
        for hall in [S, H, ((1,), ()), *mixed_halls(3, 20)]:
            for number in range(least_numbers(hall)[1] + 1):
                self.assertEqual(repr(fewest_more(hall, number)), "0")

    def test_more_pairs_than_a_hall_may_have(self):
        self.assertEqual(fewest_more(((5,) * 20, (4,) * 20), 20), 20)
        self.assertEqual(fewest_more(((LARGEST,) * 20, (LARGEST - 1,) * 20), 7), 7)
        self.assertEqual(fewest_more(((1,) * 20, ()), 20), 20)

    def test_a_further_pair_changes_the_number_by_at_most_one(self):
        for hall in mixed_halls(5, 20, 8, 8):
            for size in [1, 5, 10, 20, LARGEST]:
                further = (hall[0], hall[1] + (size,))
                for number in range(9):
                    both = fewest_more(hall, number), fewest_more(further, number)
                    self.assertIn(both[0] - both[1], (0, 1), (hall, size, number))


class FewestLargerTest(unittest.TestCase):
    def least(self, hall, number):
        feet, pairs = tuple(sorted(hall[0])), hall[1]
        for many in range(len(pairs) + 1):
            for kept in combinations(pairs, len(pairs) - many):
                for others in combinations_with_replacement(sorted({1, *feet, LARGEST}), many):
                    if least_served(feet, tuple(sorted(kept + others))) >= number:
                        return many
        return None

    def test_small_halls(self):
        for hall in small_halls():
            for number in range(len(hall[0]) + 2):
                with self.subTest(hall=hall, number=number):
                    self.assertEqual(repr(fewest_larger(hall, number)), repr(self.least(hall, number)))

    def test_large_halls(self):
        for hall in [*large_halls(), *mixed_halls(10, 50), *EDGES, H]:
            feet, pairs = hall
            ranks = sorted(pairs)
            for number in range(len(feet) + 1):
                many = fewest_larger(hall, number)
                with self.subTest(hall=hall, number=number):
                    if many is None:
                        self.assertLess(least_numbers((feet, (LARGEST,) * len(pairs)))[1], number)
                        continue
                    self.assertGreaterEqual(least_numbers((feet, (*ranks[many:], *[LARGEST] * many)))[1], number)
                    if many > 0:
                        sizes = (*ranks[many - 1:], *[LARGEST] * (many - 1))
                        self.assertLess(least_numbers((feet, sizes))[1], number)

    def test_halls_without_pairs(self):
        for feet in [(1,), (LARGEST,), (3, 1, 2), (1,) * 20]:
            self.assertEqual(repr(fewest_larger((feet, ()), 0)), "0")
            for number in [1, 2, 20, 21, 1000]:
                self.assertIsNone(fewest_larger((feet, ()), number))

    def test_more_than_guests_or_pairs(self):
        for hall in [S, H, ((1,), (1,)), ((1, 1), (1,) * 20), ((1,) * 20, (LARGEST,) * 20), ((1,) * 20, (1, 2))]:
            least = min(len(hall[0]), len(hall[1]))
            self.assertIsNotNone(fewest_larger(hall, least))
            for number in [least + 1, 21, 999, 1000]:
                self.assertIsNone(fewest_larger(hall, number))

    def test_all_are_exchanged(self):
        self.assertEqual(fewest_larger(((LARGEST,) * 20, (LARGEST - 1,) * 20), 20), 20)
        self.assertEqual(fewest_larger(((2,), (1,)), 1), 1)

    def test_the_smallest_are_exchanged(self):
        self.assertEqual(fewest_larger(((5, 5, 5), (5, 1, 5)), 3), 1)
        self.assertEqual(fewest_larger(((5, 5, 5), (1, 5, 1)), 3), 2)
        self.assertEqual(fewest_larger(((5, 5, 5), (1, 5, 1)), 1), 0)


if __name__ == "__main__":
    unittest.main()
