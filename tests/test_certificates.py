import copy
import unittest
from itertools import product

from samples import (
    H, LARGEST, S, T, all_runs, all_tables, any_values, counts, large_halls, least_numbers, mixed_halls,
    served_number, small_halls, sorted_halls, telling_sizes, with_parts_replaced,
)
from shoeparty.numbers import (
    possible_certificate, possible_certificate_holds, sure_certificate, sure_certificate_holds,
)

LIMIT = 1000
STAND_INS = [
    None, True, False, -1, 0, 1, 2, 3, 10 ** 6, 10 ** 6 + 1, 10 ** 6 + 2, 10 ** 39,
    "", "run", "table", "size", "feet", "pairs", "Feet", (), (0, 0), (1, -1), [], ["feet"], {}, {"run": ()},
]


def numbers_for(hall):
    return [*range(len(hall[0]) + 3), LIMIT]


def sure_certificates(hall, number):
    runs = [("run", run) for run in all_runs(hall) if served_number(run) < number]
    return runs + [("table", table) for table in all_tables(hall, number)]


def possible_certificates(hall, number):
    runs = [("run", run) for run in all_runs(hall) if served_number(run) >= number]
    sizes = [0, 2, 3, 4, 5, LARGEST - 1, LARGEST, LARGEST + 2, *telling_sizes(hall)]
    known = [size for size in sizes if 1 <= size <= LARGEST + 1]
    return runs + [("size", size) for size in known if sum(counts(hall, size)) < number]


class HoldsTest(unittest.TestCase):
    def check(self, holds, hall, number, value, expected):
        with self.subTest(holds=holds.__name__, hall=hall, number=number, value=value):
            self.assertIs(holds(hall, number, value), expected)

    def sure(self, hall, number, value, expected):
        self.check(sure_certificate_holds, hall, number, value, expected)

    def possible(self, hall, number, value, expected):
        self.check(possible_certificate_holds, hall, number, value, expected)


class SureTest(HoldsTest):
    def check_kind(self, hall, number):
        value = sure_certificate(hall, number)
        fewest = least_numbers(hall)[1]
        self.sure(hall, number, value, True)
        self.assertEqual(value[0], "run" if fewest < number else "table")
        return value

    def test_each_number_of_small_halls(self):
        for hall in [S, T, *small_halls(), *sorted_halls()]:
            for number in numbers_for(hall):
                value = self.check_kind(hall, number)
                if value[0] == "run":
                    self.assertIn(value[1], all_runs(hall))
                    self.assertLess(served_number(value[1]), number)
                else:
                    self.assertIn(value[1], all_tables(hall, number))

    def test_each_number_of_large_halls(self):
        for hall in large_halls():
            for number in numbers_for(hall):
                self.check_kind(hall, number)

    def check_words(self, hall, number, table):
        sizes = sorted(set(hall[0]))
        self.assertEqual(len(table), len(sizes))
        for size, word in zip(sizes, table):
            feet, pairs = counts(hall, size)
            self.assertGreaterEqual({"feet": feet, "pairs": pairs}[word], number)

    def test_tables_of_large_feet_are_in_ascending_order(self):
        halls = [((10 ** 6, 1, 524288, 70000, 9), (10 ** 6,) * 3 + (1,)), *mixed_halls(30, 10 ** 6)]
        for hall in halls:
            fewest = least_numbers(hall)[1]
            for number in range(fewest + 1):
                self.check_words(hall, number, sure_certificate(hall, number)[1])
            self.sure(hall, fewest + 1, ("table", sure_certificate(hall, fewest)[1]), False)

    def test_words_for_large_feet_in_another_order_do_not_hold(self):
        hall = ((10 ** 6, 1, 524288), (10 ** 6, 2, 2))
        self.sure(hall, 2, ("table", ("pairs", "feet", "feet")), False)
        hall = ((10 ** 6, 1, 524288), (10 ** 6, 524288, 2))
        self.sure(hall, 2, ("table", ("pairs", "pairs", "feet")), True)
        self.sure(hall, 2, ("table", ("feet", "pairs", "pairs")), False)
        self.sure(hall, 2, ("table", ("pairs", "feet", "pairs")), False)

    def test_either_a_run_or_a_table_never_both(self):
        for hall in [S, T, *small_halls(), *list(sorted_halls())[::3]]:
            for number in numbers_for(hall):
                runs = [run for run in all_runs(hall) if sure_certificate_holds(hall, number, ("run", run))]
                many = len(set(hall[0]))
                tables = [
                    table for table in product(("feet", "pairs"), repeat=many)
                    if sure_certificate_holds(hall, number, ("table", table))
                ]
                self.assertNotEqual(bool(runs), bool(tables), (hall, number))
                self.assertEqual(tables, all_tables(hall, number))
                self.assertEqual(runs, [run for run in all_runs(hall) if served_number(run) < number])

    def test_table_with_a_word_changed_removed_or_added(self):
        hall = ((2, 3, 2, 5), (5, 2, 6))
        self.sure(hall, 2, ("table", ("pairs", "feet", "pairs")), True)
        self.sure(hall, 2, ("table", ("pairs", "pairs", "feet")), True)
        self.sure(hall, 2, ("table", ("feet", "feet", "pairs")), False)
        self.sure(hall, 2, ("table", ("pairs", "feet", "pair")), False)
        self.sure(hall, 2, ("table", ("pairs", "feet")), False)
        self.sure(hall, 2, ("table", ("pairs", "pairs", "feet", "pairs")), False)
        self.sure(hall, 2, ("table", ("pairs", "feet", "pairs", "feet")), False)
        self.sure(hall, 2, ("table", ()), False)
        self.sure(hall, 2, ("table", ["pairs", "feet", "pairs"]), False)
        self.sure(hall, 2, ["table", ("pairs", "feet", "pairs")], False)
        self.sure(hall, 2, ("table", ("pairs", "feet", "pairs"), ()), False)
        self.sure(hall, 2, ("run", ("pairs", "feet", "pairs")), False)
        self.sure(hall, 2, ("size", ("pairs", "feet", "pairs")), False)
        self.sure(hall, 3, ("table", ("pairs", "feet", "feet")), False)
        self.sure(hall, 3, ("table", ("pairs", "pairs", "feet")), False)

    def test_no_table_for_more_than_all_guests(self):
        hall = ((2,), (5, 5, 5, 5))
        self.sure(hall, 1, ("table", ("pairs",)), True)
        self.sure(hall, 2, ("table", ("pairs",)), False)
        self.sure(hall, 4, ("table", ("pairs",)), False)
        self.assertEqual(sure_certificate(hall, 2)[0], "run")
        self.assertEqual(sure_certificate(hall, LIMIT)[0], "run")

    def test_any_word_stands_in_a_table_for_nobody(self):
        for table in product(("feet", "pairs"), repeat=2):
            self.sure(((7, 9), ()), 0, ("table", table), True)
        self.sure(((7, 9), ()), 0, ("table", ("feet",)), False)
        self.sure(((7, 9), ()), 0, ("table", ("feet", "feet", "feet")), False)
        self.sure(((7, 7), ()), 0, ("table", ("feet", "feet")), False)
        self.sure(((7, 7), ()), 0, ("table", ("feet",)), True)

    def test_runs(self):
        run = ((0, 1), (1, -1))
        self.sure(S, 2, ("run", run), True)
        self.sure(S, 3, ("run", run), True)
        self.sure(S, LIMIT, ("run", run), True)
        self.sure(S, 1, ("run", run), False)
        self.sure(S, 0, ("run", run), False)
        self.sure(S, 2, ("table", run), False)
        self.sure(S, 2, ("run", ((0, 0), (1, 1))), False)
        self.sure(S, 2, ("run", ((0, 0), (1, -1))), False)
        self.sure(S, 2, ("run", ((0, -1), (1, -1))), False)
        self.sure(S, 2, ("run", ((0, True), (1, -1))), False)
        self.sure(S, 2, ("run", [(0, 1), (1, -1)]), False)
        self.sure(H, 2, ("run", run), False)
        self.sure(((2, 3), (4, 4)), 2, ("run", run), False)

    def test_any_value_and_parts_replaced(self):
        for hall in [S, T, ((1,), ()), ((1,), (1,)), ((3, 1), (2,))]:
            for number in numbers_for(hall):
                right = {repr(value) for value in sure_certificates(hall, number)}
                for value in any_values():
                    self.sure(hall, number, value, False)
                for certificate in sure_certificates(hall, number):
                    for value in with_parts_replaced(certificate, STAND_INS):
                        self.assertIs(sure_certificate_holds(hall, number, value), repr(value) in right, value)


class PossibleTest(HoldsTest):
    def check_kind(self, hall, number):
        value = possible_certificate(hall, number)
        most = least_numbers(hall)[0]
        self.possible(hall, number, value, True)
        self.assertEqual(value[0], "size" if most < number else "run")
        return value

    def test_each_number_of_small_halls(self):
        for hall in [S, T, *small_halls(), *sorted_halls()]:
            for number in numbers_for(hall):
                value = self.check_kind(hall, number)
                if value[0] == "run":
                    self.assertIn(value[1], all_runs(hall))
                    self.assertGreaterEqual(served_number(value[1]), number)
                else:
                    self.assertIs(type(value[1]), int)
                    self.assertIn(value[1], range(1, LARGEST + 2))
                    self.assertLess(sum(counts(hall, value[1])), number)

    def test_each_number_of_large_halls(self):
        for hall in large_halls():
            for number in numbers_for(hall):
                self.check_kind(hall, number)

    def test_either_a_run_or_a_size_never_both(self):
        for hall in [S, T, *small_halls(), *list(sorted_halls())[::3]]:
            for number in numbers_for(hall):
                runs = [run for run in all_runs(hall) if possible_certificate_holds(hall, number, ("run", run))]
                sizes = [
                    size for size in telling_sizes(hall) if possible_certificate_holds(hall, number, ("size", size))
                ]
                self.assertNotEqual(bool(runs), bool(sizes), (hall, number))
                self.assertEqual(runs, [run for run in all_runs(hall) if served_number(run) >= number])
                self.assertEqual(sizes, [size for size in telling_sizes(hall) if sum(counts(hall, size)) < number])

    def test_sizes(self):
        self.possible(T, 2, ("size", 5), True)
        self.possible(T, 2, ("size", 4), False)
        self.possible(T, 2, ("size", 6), False)
        self.possible(T, 1, ("size", 5), False)
        self.possible(T, 3, ("size", 1), True)
        self.possible(T, 3, ("size", 10 ** 6), True)
        self.possible(T, 3, ("size", 10 ** 6 + 1), True)
        for number in [0, 2, 3, LIMIT]:
            for wrong in [0, -1, 10 ** 6 + 2, 10 ** 39, -(10 ** 39), True, False, None, "5", (5,), [5], {}]:
                self.possible(T, number, ("size", wrong), False)
        self.possible(T, 2, ["size", 5], False)
        self.possible(T, 2, ("size", 5, 5), False)
        self.possible(T, 2, ("size",), False)
        self.possible(T, 2, ("table", 5), False)
        self.possible(T, 2, ("run", 5), False)
        self.possible(T, 0, ("table", ("feet",)), False)

    def test_size_true_right_after_one(self):
        for _ in range(2):
            self.possible(((1,), ()), 1, ("size", 1), True)
            self.possible(((1,), ()), 1, ("size", True), False)

    def test_runs(self):
        run = ((0, 0), (1, 1))
        self.possible(S, 0, ("run", run), True)
        self.possible(S, 2, ("run", run), True)
        self.possible(S, 3, ("run", run), False)
        self.possible(S, LIMIT, ("run", run), False)
        self.possible(S, 2, ("size", run), False)
        self.possible(S, 2, ("run", ((0, 1), (1, -1))), False)
        self.possible(S, 1, ("run", ((0, 1), (1, -1))), True)
        self.possible(S, 0, ("run", ((0, 0), (1, -1))), False)
        self.possible(S, 2, ("run", ((0, False), (1, 1))), False)
        self.possible(S, 2, ("run", [(0, 0), (1, 1)]), False)
        self.possible(S, 1, ("run", ((0, 1), (1, 0))), False)
        self.possible(H, 0, ("run", run), False)
        self.possible(((3, 3), (2, 4)), 0, ("run", run), False)

    def test_any_value_and_parts_replaced(self):
        for hall in [S, T, ((1,), ()), ((1,), (1,)), ((3, 1), (2,))]:
            for number in numbers_for(hall):
                right = {repr(value) for value in possible_certificates(hall, number)}
                for value in any_values():
                    self.possible(hall, number, value, False)
                for certificate in possible_certificates(hall, number):
                    for value in with_parts_replaced(certificate, STAND_INS):
                        self.assertIs(possible_certificate_holds(hall, number, value), repr(value) in right, value)


class UnchangedTest(unittest.TestCase):
    def test_values_are_not_changed(self):
        values = any_values() + [
            ["run", [[0, 1], [1, -1]]], ("run", [[0, 1], [1, -1]]), ("table", ["pairs", "feet"]), ("size", [3]),
        ]
        for holds in [sure_certificate_holds, possible_certificate_holds]:
            for value in values:
                kept = copy.deepcopy(value)
                self.assertIs(holds(S, 1, value), holds(S, 1, kept))
                self.assertEqual(repr(value), repr(kept))


if __name__ == "__main__":
    unittest.main()
