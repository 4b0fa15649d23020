import copy
import unittest

from samples import H, S, T, any_values, counts, mixed_halls, small_halls, with_parts_replaced
from shoeparty.halls import counts_at, hall_error, is_hall

NO_SIZES = [0, -1, -(10 ** 6), 10 ** 6 + 1, 10 ** 39, -(10 ** 39), True, False, None, "", "1", (), (1,), [], [1], {}]


class HallTest(unittest.TestCase):
    def check(self, value, error):
        with self.subTest(value=value):
            self.assertEqual(repr(hall_error(value)), repr(error))
            self.assertIs(is_hall(value), error is None)

    def test_halls(self):
        for hall in [S, H, T, *small_halls(), *mixed_halls(5, 10 ** 6)]:
            self.check(hall, None)

    def test_numbers_of_guests_and_pairs(self):
        for guests in range(1, 21):
            for pairs in range(21):
                self.check(((3,) * guests, (3,) * pairs), None)
        self.check(((), ()), (None, "feet"))
        self.check(((), (3,)), (None, "feet"))
        self.check(((3,) * 21, (3,)), (None, "feet"))
        self.check(((3,) * 1000, (3,)), (None, "feet"))
        self.check(((3,), (3,) * 21), (None, "pairs"))
        self.check(((3,), (3,) * 1000), (None, "pairs"))

    def test_sizes(self):
        for size in [1, 2, 10 ** 6 - 1, 10 ** 6]:
            self.check(((size,), (size,)), None)
            self.check(((5, size), (5, size)), None)
        for wrong in NO_SIZES:
            self.check(((wrong,), (5,)), (0, "foot"))
            self.check(((5, wrong), (5,)), (1, "foot"))
            self.check(((5,), (wrong,)), (0, "pair"))
            self.check(((5,), (5, 5, wrong)), (2, "pair"))
            self.check(((5,) * 19 + (wrong,), (5,)), (19, "foot"))
            self.check(((5,), (5,) * 19 + (wrong,)), (19, "pair"))

    def test_bools_right_after_equal_numbers(self):
        for _ in range(2):
            self.check(((1, 1), (1, 1)), None)
            self.check(((1, True), (1, 1)), (1, "foot"))
            self.check(((1, 1), (True, 1)), (0, "pair"))
            self.check(((0,), (1,)), (0, "foot"))
            self.check(((False,), (1,)), (0, "foot"))
            self.check(((1,), (0,)), (0, "pair"))
            self.check(((1,), (False,)), (0, "pair"))

    def test_lists_at_each_level(self):
        self.check([(2, 3), (2, 4)], (None, "hall"))
        self.check(([2, 3], (2, 4)), (None, "feet"))
        self.check(((2, 3), [2, 4]), (None, "pairs"))
        self.check(((2, 3), []), (None, "pairs"))
        self.check((([2], 3), (2, 4)), (0, "foot"))
        self.check(((2, 3), (2, [4])), (1, "pair"))

    def test_tuples_of_another_length(self):
        self.check((), (None, "hall"))
        self.check(((2, 3),), (None, "hall"))
        self.check(((2, 3), (2, 4), ()), (None, "hall"))
        self.check(((2, 3), (2, 4), (2, 4)), (None, "hall"))

    def test_the_error_that_is_listed_first_is_told(self):
        self.check(([],), (None, "hall"))
        self.check(((), None), (None, "feet"))
        self.check(((), (0,)), (None, "feet"))
        self.check(([0], [0]), (None, "feet"))
        self.check(((0,) * 21, (0,) * 21), (None, "feet"))
        self.check(((5, 0, 0), None), (1, "foot"))
        self.check(((5, 0), (0,)), (1, "foot"))
        self.check(((0,), (5,) * 21), (0, "foot"))
        self.check(((0, True, None), ()), (0, "foot"))
        self.check(((5,), (0,) * 21), (None, "pairs"))
        self.check(((5,), [0]), (None, "pairs"))
        self.check(((5,), (5, None, 0)), (1, "pair"))

    def test_any_value(self):
        for value in any_values():
            kept = copy.deepcopy(value)
            two_items = isinstance(value, tuple) and len(value) == 2
            self.check(value, (None, "feet") if two_items else (None, "hall"))
            self.assertEqual(repr(value), repr(kept))
            if not isinstance(value, tuple):
                self.check((value, (1,)), (None, "feet"))
                self.check(((1,), value), (None, "pairs"))

    def test_parts_replaced(self):
        right = {repr(hall) for hall in small_halls()}
        found = set()
        for value in with_parts_replaced(((1, 2), (3, 1)), [None, True, False, 0, 1, (), [], (1,), "1", {}]):
            found.add(is_hall(value))
            # small_halls has each hall that a doubled foot or pair makes, too.
            self.assertIs(is_hall(value), repr(value) in right, value)
            self.assertIs(is_hall(value), hall_error(value) is None)
        self.assertEqual(found, {True, False})


class CountsTest(unittest.TestCase):
    def check(self, hall, size, feet, pairs):
        with self.subTest(hall=hall, size=size):
            self.assertEqual(repr(counts_at(hall, size)), repr((feet, pairs)))

    def test_around_feet_and_pairs(self):
        hall = ((5, 9, 5), (7, 5, 9, 9))
        for size, feet, pairs in [
            (1, 0, 4), (4, 0, 4), (5, 0, 4), (6, 2, 3), (7, 2, 3), (8, 2, 2), (9, 2, 2), (10, 3, 0),
            (10 ** 6, 3, 0), (10 ** 6 + 1, 3, 0),
        ]:
            self.check(hall, size, feet, pairs)

    def test_least_and_greatest_sizes(self):
        hall = ((1, 10 ** 6), (1, 10 ** 6, 10 ** 6))
        self.check(hall, 1, 0, 3)
        self.check(hall, 2, 1, 2)
        self.check(hall, 10 ** 6 - 1, 1, 2)
        self.check(hall, 10 ** 6, 1, 2)
        self.check(hall, 10 ** 6 + 1, 2, 0)

    def test_without_pairs(self):
        for size, feet in [(1, 0), (7, 0), (8, 1), (10 ** 6 + 1, 1)]:
            self.check(((7,), ()), size, feet, 0)

    def test_each_size_of_many_halls(self):
        for hall in mixed_halls(10, 40):
            for size in [*range(1, 43), 10 ** 6, 10 ** 6 + 1]:
                self.check(hall, size, *counts(hall, size))


if __name__ == "__main__":
    unittest.main()
