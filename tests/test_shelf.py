import unittest
from collections import Counter
from itertools import combinations_with_replacement

from samples import LARGEST, any_values, mixed_halls, with_parts_replaced
from shoeparty import errors
from shoeparty.values import Porter, Shelf

STAND_INS = [None, True, False, -1, 0, LARGEST + 1, 10 ** 39, "", "1", (), (1,), [1], {}]


def is_argument(value):
    """Whether a shelf is made of the value, by the words of the document."""
    if type(value) is not tuple or len(value) > 100:
        return False
    return all(type(size) is int and 1 <= size <= 10 ** 6 for size in value)


def small_sizes():
    """Ascending sizes of at most four pairs."""
    for many in range(5):
        yield from combinations_with_replacement((2, 3, 7), many)


def has_no_size_more_often(sizes, others):
    return not Counter(others) - Counter(sizes)


class MadeTest(unittest.TestCase):
    def refuse(self, value):
        with self.subTest(value=value), self.assertRaises(errors.BadShelf) as caught:
            Shelf(value)
        self.assertIs(type(caught.exception), errors.BadShelf)
        self.assertIs(caught.exception.value, value)

    def accept(self, value):
        with self.subTest(value=value):
            shelf = Shelf(value)
            self.assertEqual(repr(shelf.sizes), repr(tuple(sorted(value))))
            self.assertEqual(len(shelf), len(value))

    def test_numbers_of_sizes(self):
        for many in [0, 1, 2, 99, 100]:
            self.accept((7,) * many)
            self.accept(tuple(range(many, 0, -1)))
        for many in [101, 102, 1000]:
            self.refuse((7,) * many)
            self.refuse(tuple(range(1, many + 1)))

    def test_limits_of_sizes(self):
        for sizes in [(1,), (LARGEST,), (LARGEST, 1), (2, LARGEST, 1, 2)]:
            self.accept(sizes)
        for size in [0, -1, LARGEST + 1, 10 ** 40 - 1, 1 - 10 ** 40, True, False, None, "1", (1,), [1], {}]:
            for sizes in [(size,), (1, size), (size, 1), (2, size, 1), (5,) * 99 + (size,)]:
                self.refuse(sizes)

    def test_no_tuples(self):
        for value in [[], [1], [1, 2], {}, {"1": 1}, "", "12", None, 0, 1, True, False]:
            self.refuse(value)
        for value in [Shelf(()), Shelf((1, 2)), Porter(Shelf((1,))), (Shelf((1,)),), Shelf, iter((1, 2))]:
            self.refuse(value)

    def test_any_values(self):
        for value in any_values():
            if is_argument(value):
                self.accept(value)
            else:
                self.refuse(value)
        for value in with_parts_replaced((2, 1, 2), STAND_INS):
            if is_argument(value):
                self.accept(value)
            else:
                self.refuse(value)

    def test_sizes_are_sorted(self):
        self.assertEqual(Shelf((41, 38, 41)).sizes, (38, 41, 41))
        for feet, pairs in mixed_halls(5, LARGEST):
            self.accept(feet + pairs)
            self.accept(feet + pairs + feet + pairs + feet)

    def test_a_list_that_was_refused_is_kept_as_it_is(self):
        sizes = [3, 1, 2]
        self.refuse(sizes)
        self.assertEqual(sizes, [3, 1, 2])


class PlaceTest(unittest.TestCase):
    def refuse(self, shelf, value):
        with self.subTest(shelf=shelf.sizes, value=value), self.assertRaises(errors.NoPlace) as caught:
            shelf[value]
        self.assertIs(caught.exception.value, value)

    def test_each_place(self):
        for sizes in [(4,), (9, 4, 4), tuple(range(100, 0, -1)), (LARGEST,) * 100]:
            shelf = Shelf(sizes)
            for place, size in enumerate(sorted(sizes)):
                self.assertEqual(repr(shelf[place]), repr(size))

    def test_no_place(self):
        for shelf in [Shelf(()), Shelf((4,)), Shelf((4, 9, 4)), Shelf(tuple(range(1, 101)))]:
            for value in [-1, -len(shelf), len(shelf), len(shelf) + 1, 10 ** 39, -10 ** 39]:
                self.refuse(shelf, value)

    def test_any_values(self):
        for value in [*any_values(), (0,), (0, 0), "0", [0], Shelf((1,)), slice(0, 1), slice(None)]:
            if type(value) is not int:
                self.refuse(Shelf((4, 9)), value)
            self.refuse(Shelf(()), value)
        self.refuse(Shelf((4, 9)), True)
        self.refuse(Shelf((4, 9)), False)

    def test_the_same_after_an_error(self):
        shelf = Shelf((9, 4))
        self.refuse(shelf, 2)
        self.assertEqual((shelf[0], shelf[1], shelf.sizes), (4, 9, (4, 9)))

    def test_a_loop_raises_a_type_error(self):
        for shelf in [Shelf(()), Shelf((4,)), Shelf((4, 9))]:
            with self.assertRaises(TypeError):
                for size in shelf:
                    self.fail(size)
            for action in [list, tuple, sorted, iter, set, enumerate, sum]:
                self.assertRaises(TypeError, action, shelf)


class SumTest(unittest.TestCase):
    def test_small_shelves(self):
        for sizes in small_sizes():
            for others in small_sizes():
                one, other = Shelf(sizes), Shelf(others[::-1])
                both = one + other
                self.assertIs(type(both), Shelf)
                self.assertEqual(both.sizes, tuple(sorted(sizes + others)))
                self.assertEqual((one.sizes, other.sizes), (sizes, others))
                self.assertEqual(both - other, one)
                self.assertEqual(both - one, other)

    def test_up_to_100_pairs(self):
        for many, more in [(100, 0), (0, 100), (99, 1), (1, 99), (50, 50), (0, 0)]:
            both = Shelf((7,) * many) + Shelf((2,) * more)
            self.assertEqual(both.sizes, (2,) * more + (7,) * many)

    def test_too_many(self):
        for many, more in [(100, 1), (1, 100), (99, 2), (51, 50), (100, 100)]:
            one, other = Shelf((7,) * many), Shelf((2,) * more)
            with self.assertRaises(errors.TooManyPairs) as caught:
                one + other
            self.assertIs(type(caught.exception), errors.TooManyPairs)
            self.assertEqual((one.sizes, other.sizes), ((7,) * many, (2,) * more))

    def test_a_shelf_and_itself(self):
        shelf = Shelf((5, 3))
        self.assertEqual((shelf + shelf).sizes, (3, 3, 5, 5))
        self.assertEqual((shelf - shelf).sizes, ())
        self.assertEqual(shelf.sizes, (3, 5))

    def test_an_assignment_leaves_the_other_name_as_it_is(self):
        shelf = kept = Shelf((5, 3))
        shelf += Shelf((4,))
        self.assertEqual((shelf.sizes, kept.sizes), ((3, 4, 5), (3, 5)))
        shelf -= Shelf((3, 5))
        self.assertEqual((shelf.sizes, kept.sizes), ((4,), (3, 5)))


class DifferenceTest(unittest.TestCase):
    def missing(self, one, other):
        with self.assertRaises(errors.Missing) as caught:
            one - other
        self.assertIs(type(caught.exception), errors.Missing)
        return caught.exception.size

    def test_small_shelves(self):
        for sizes in small_sizes():
            for others in small_sizes():
                one, other = Shelf(sizes[::-1]), Shelf(others)
                with self.subTest(sizes=sizes, others=others):
                    if has_no_size_more_often(sizes, others):
                        rest = one - other
                        self.assertIs(type(rest), Shelf)
                        self.assertEqual(rest.sizes, tuple(sorted((Counter(sizes) - Counter(others)).elements())))
                    else:
                        self.assertEqual(self.missing(one, other), min(Counter(others) - Counter(sizes)))
                    self.assertEqual((one.sizes, other.sizes), (sizes, others))

    def test_equal_sizes_more_often(self):
        self.assertEqual(self.missing(Shelf((5, 5)), Shelf((5, 5, 5))), 5)
        self.assertEqual(self.missing(Shelf((5, 5, 9)), Shelf((9, 9, 5, 5, 5))), 5)
        self.assertEqual(self.missing(Shelf((5, 5, 9)), Shelf((9, 9, 5, 5))), 9)
        self.assertEqual(self.missing(Shelf(()), Shelf((9, 5, 7))), 5)
        self.assertEqual(self.missing(Shelf((5,)), Shelf((1, LARGEST))), 1)

    def test_large_shelves(self):
        sizes = tuple(range(1, 101))
        self.assertEqual((Shelf(sizes) - Shelf(sizes[::2])).sizes, sizes[1::2])
        self.assertEqual((Shelf((7,) * 100) - Shelf((7,) * 99)).sizes, (7,))
        self.assertEqual((Shelf((7,) * 100) - Shelf((7,) * 100)).sizes, ())
        self.assertEqual(self.missing(Shelf((7,) * 99), Shelf((7,) * 100)), 7)


class ContainsTest(unittest.TestCase):
    def test_small_shelves(self):
        for sizes in small_sizes():
            for others in small_sizes():
                one, other = Shelf(sizes), Shelf(others[::-1])
                with self.subTest(sizes=sizes, others=others):
                    self.assertIs(other in one, has_no_size_more_often(sizes, others))
                    self.assertIs(other not in one, not has_no_size_more_often(sizes, others))
                    self.assertEqual((one.sizes, other.sizes), (sizes, others))

    def test_the_shelf_itself_and_the_empty_shelf(self):
        for shelf in [Shelf(()), Shelf((4,)), Shelf((4, 4)), Shelf(tuple(range(1, 101)))]:
            self.assertIs(shelf in shelf, True)
            self.assertIs(Shelf(shelf.sizes) in shelf, True)
            self.assertIs(Shelf(()) in shelf, True)
            self.assertIs(shelf in Shelf(()), len(shelf) == 0)

    def test_no_shelves(self):
        for shelf in [Shelf(()), Shelf((1, 4, 4))]:
            for value in [*any_values(), 4, (4,), (1, 4, 4), [4], "4", Porter(shelf), Shelf]:
                with self.subTest(value=value):
                    self.assertIs(value in shelf, False)


class EqualTest(unittest.TestCase):
    def check(self, one, other, equal):
        self.assertIs(one == other, equal)
        self.assertIs(other == one, equal)
        self.assertIs(one != other, not equal)
        self.assertIs(other != one, not equal)

    def test_small_shelves(self):
        for sizes in small_sizes():
            for others in small_sizes():
                with self.subTest(sizes=sizes, others=others):
                    self.check(Shelf(sizes), Shelf(others[::-1]), sizes == others)

    def test_other_order(self):
        self.check(Shelf((3, 1, 2, 1)), Shelf((1, 1, 2, 3)), True)
        self.check(Shelf((3, 1, 2, 1)), Shelf((1, 2, 2, 3)), False)
        self.check(Shelf((3, 1, 2, 1)), Shelf((1, 2, 3)), False)

    def test_no_shelves(self):
        for shelf in [Shelf(()), Shelf((1, 2))]:
            for value in [*any_values(), (1, 2), [1, 2], "       1       2", Porter(shelf), Shelf]:
                with self.subTest(value=value):
                    self.check(shelf, value, False)


class TextTest(unittest.TestCase):
    def test_sizes_of_one_to_seven_digits(self):
        shelf = Shelf((1000000, 234567, 98765, 4321, 999, 54, 7))
        self.assertEqual(str(shelf), "       7      54     999   4,321  98,765 234,5671,000,000")
        for size, text in [
            (1, "       1"), (10, "      10"), (100, "     100"), (1000, "   1,000"), (10000, "  10,000"),
            (100000, " 100,000"), (1000000, "1,000,000"), (999999, " 999,999"),
        ]:
            self.assertEqual(str(Shelf((size,))), text)
            self.assertEqual(str(Shelf((size, size))), text + text)

    def test_the_empty_shelf(self):
        self.assertEqual(str(Shelf(())), "")

    def test_len(self):
        for many in [0, 1, 2, 99, 100]:
            self.assertEqual(repr(len(Shelf((3,) * many))), repr(many))

    def test_a_large_shelf(self):
        self.assertEqual(str(Shelf((5,) * 100)), "       5" * 100)


if __name__ == "__main__":
    unittest.main()
