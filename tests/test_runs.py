import copy
import unittest
from itertools import permutations, product

from samples import H, S, all_runs, any_values, mixed_halls, small_halls, sorted_halls, with_parts_replaced
from shoeparty.runs import is_run, large_run, left_by, served_by, small_run

STAND_INS = [None, True, False, -2, -1, 0, 1, 2, 3, 20, 10 ** 39, -(10 ** 39), "", "0", (), (0,), (0, 0), [], [0, 0], {}]


class IsRunTest(unittest.TestCase):
    def refuse(self, hall, value):
        with self.subTest(hall=hall, value=value):
            self.assertIs(is_run(hall, value), False)

    def accept(self, hall, value):
        with self.subTest(hall=hall, value=value):
            self.assertIs(is_run(hall, value), True)

    def test_each_run_is_accepted(self):
        for hall in small_halls():
            for run in all_runs(hall):
                self.accept(hall, run)

    def test_nothing_else_of_such_numbers_is_accepted(self):
        for hall in [S, ((1, 1), (1, 1)), ((2, 1), (1, 2)), ((1, 2), (2,)), ((2, 2), (1, 3)), ((3, 1), ())]:
            runs = all_runs(hall)
            for value in product(product((-1, 0, 1, 2), (-2, -1, 0, 1, 2)), repeat=2):
                with self.subTest(hall=hall, value=value):
                    self.assertIs(is_run(hall, value), value in runs)
        for hall in [((1, 2, 2), (2, 3)), ((3, 2, 1), (2, 2))]:
            runs = set(all_runs(hall))
            for value in product(product((0, 1, 2), (-1, 0, 1)), repeat=3):
                self.assertIs(is_run(hall, value), value in runs, value)

    def test_wrong_guests(self):
        self.refuse(S, ())
        self.refuse(S, ((0, 0),))
        self.refuse(S, ((0, 0), (0, 1)))
        self.refuse(S, ((0, 1), (1, -1), (1, -1)))
        self.refuse(S, ((0, 1), (1, -1), (2, -1)))
        self.refuse(S, ((0, 0), (1, 1), (0, -1)))
        self.refuse(S, ((0, 0), (2, 1)))
        self.refuse(S, ((0, 0), (-1, 1)))
        self.refuse(S, ((-2, 0), (-1, 1)))

    def test_wrong_pairs(self):
        self.refuse(S, ((0, 1), (1, 1)))
        self.refuse(S, ((0, 1), (1, 0)))
        self.refuse(S, ((1, 0), (0, 1)))
        self.refuse(S, ((0, 0), (1, 2)))
        self.refuse(S, ((0, -2), (1, 1)))
        self.refuse(((3,), (2,)), ((0, 0),))
        self.refuse(((3,), ()), ((0, 0),))
        self.accept(((3,), ()), ((0, -1),))
        self.accept(((3,), (3,)), ((0, 0),))

    def test_without_although_served_at_that_moment(self):
        self.refuse(S, ((0, -1), (1, 1)))
        self.refuse(S, ((0, 0), (1, -1)))
        self.refuse(S, ((1, -1), (0, 0)))
        # The only pair that fits is taken later, not before.
        self.refuse(((2, 2), (2,)), ((0, -1), (1, 0)))
        self.accept(((2, 2), (2,)), ((0, 0), (1, -1)))
        self.accept(S, ((0, 1), (1, -1)))

    def test_lists(self):
        self.refuse(S, [(0, 0), (1, 1)])
        self.refuse(S, ([0, 0], (1, 1)))
        self.refuse(S, ((0, 0), [1, 1]))
        self.refuse(S, (([0], 0), (1, 1)))

    def test_bools_right_after_equal_numbers(self):
        for _ in range(2):
            self.accept(S, ((0, 0), (1, 1)))
            self.refuse(S, ((False, 0), (1, 1)))
            self.refuse(S, ((0, False), (1, 1)))
            self.refuse(S, ((0, 0), (True, 1)))
            self.refuse(S, ((0, 0), (1, True)))
            self.refuse(S, ((False, False), (True, True)))
            self.accept(S, ((1, 1), (0, 0)))
            self.refuse(S, ((True, True), (False, False)))

    def test_any_value(self):
        for value in any_values():
            kept = copy.deepcopy(value)
            for hall in [S, H, ((1,), ()), ((1,), (1,))]:
                self.refuse(hall, value)
            self.refuse(((1,), ()), (value,))
            if repr(value) not in ("0", "1"):
                self.refuse(S, ((0, value), (1, 1)))
                self.refuse(S, ((value, 1), (0, 0)))
            self.assertEqual(repr(value), repr(kept))

    def test_parts_replaced(self):
        for hall in [S, ((1, 1), (1, 1)), ((2, 3), (1,)), ((2,), (2, 2))]:
            right = {repr(run) for run in all_runs(hall)}
            for run in all_runs(hall):
                for value in with_parts_replaced(run, STAND_INS):
                    self.assertIs(is_run(hall, value), repr(value) in right, value)

    def test_large_halls(self):
        hall = ((5,) * 20, (5,) * 20)
        run = tuple((guest, 19 - guest) for guest in range(20))
        self.accept(hall, run)
        self.refuse(hall, run[:19])
        self.refuse(hall, run[:19] + ((19, -1),))
        self.refuse(hall, run[:19] + ((19, 19),))


class ServedAndLeftTest(unittest.TestCase):
    def check(self, hall, run, served, left):
        with self.subTest(hall=hall, run=run):
            self.assertEqual(repr(served_by(hall, run)), repr(served))
            self.assertEqual(repr(left_by(hall, run)), repr(left))

    def test_all_runs_of_small_halls(self):
        for hall in small_halls():
            for run in all_runs(hall):
                given = dict(run)
                served = tuple(guest for guest in range(len(hall[0])) if given[guest] >= 0)
                left = tuple(pair for pair in range(len(hall[1])) if pair not in given.values())
                self.check(hall, run, served, left)

    def test_ascending_and_empty(self):
        self.check(S, ((1, 1), (0, 0)), (0, 1), ())
        self.check(((3, 3), (2, 1)), ((1, -1), (0, -1)), (), (0, 1))
        self.check(((3, 3), ()), ((1, -1), (0, -1)), (), ())
        hall = ((5, 9, 5, 9), (5, 4, 5, 5, 3))
        self.check(hall, ((3, -1), (2, 3), (1, -1), (0, 0)), (0, 2), (1, 2, 4))


class ChoiceTest(unittest.TestCase):
    def choices(self, hall, order, sign):
        left = dict(enumerate(hall[1]))
        run = []
        for guest in order:
            fitting = [(sign * size, pair) for pair, size in left.items() if size >= hall[0][guest]]
            pair = min(fitting)[1] if fitting else -1
            left.pop(pair, None)
            run.append((guest, pair))
        return tuple(run)

    def check(self, hall, order):
        with self.subTest(hall=hall, order=order):
            for run, sign in [(small_run(hall, order), 1), (large_run(hall, order), -1)]:
                self.assertEqual(repr(run), repr(self.choices(hall, order, sign)))
                self.assertTrue(is_run(hall, run))

    def test_several_orders_of_one_hall(self):
        hall = ((4, 2, 6), (7, 3, 5))
        self.assertEqual(small_run(hall, (0, 1, 2)), ((0, 2), (1, 1), (2, 0)))
        self.assertEqual(small_run(hall, (2, 1, 0)), ((2, 0), (1, 1), (0, 2)))
        self.assertEqual(large_run(hall, (0, 1, 2)), ((0, 0), (1, 2), (2, -1)))
        self.assertEqual(large_run(hall, (1, 0, 2)), ((1, 0), (0, 2), (2, -1)))
        self.assertEqual(large_run(hall, (2, 0, 1)), ((2, 0), (0, 2), (1, 1)))

    def test_of_equal_pairs_the_smaller_number_is_taken(self):
        hall = ((4, 4, 4, 4), (6, 5, 6, 5))
        self.assertEqual(small_run(hall, (0, 1, 2, 3)), ((0, 1), (1, 3), (2, 0), (3, 2)))
        self.assertEqual(large_run(hall, (0, 1, 2, 3)), ((0, 0), (1, 2), (2, 1), (3, 3)))
        self.assertEqual(small_run(hall, (3, 1, 0, 2)), ((3, 1), (1, 3), (0, 0), (2, 2)))
        self.assertEqual(large_run(hall, (3, 1, 0, 2)), ((3, 0), (1, 2), (0, 1), (2, 3)))

    def test_no_pair_is_left(self):
        hall = ((4, 4, 1, 9), (4, 3))
        self.assertEqual(small_run(hall, (3, 0, 1, 2)), ((3, -1), (0, 0), (1, -1), (2, 1)))
        self.assertEqual(small_run(hall, (2, 3, 1, 0)), ((2, 1), (3, -1), (1, 0), (0, -1)))
        self.assertEqual(large_run(hall, (2, 3, 1, 0)), ((2, 0), (3, -1), (1, -1), (0, -1)))
        self.assertEqual(small_run(((4,), ()), (0,)), ((0, -1),))
        self.assertEqual(large_run(((4,), ()), (0,)), ((0, -1),))
        self.assertEqual(small_run(((4,), (4,)), (0,)), ((0, 0),))
        self.assertEqual(large_run(((4,), (4,)), (0,)), ((0, 0),))

    def test_each_order_of_small_halls(self):
        for hall in [*small_halls(), *list(sorted_halls())[::7]]:
            for order in permutations(range(len(hall[0]))):
                self.check(hall, order)

    def test_large_halls(self):
        for top in [3, 20, 10 ** 6]:
            for hall in mixed_halls(10, top):
                for order in [tuple(range(20)), tuple(range(19, -1, -1)), tuple(k * 7 % 20 for k in range(20))]:
                    self.check(hall, order)


if __name__ == "__main__":
    unittest.main()
