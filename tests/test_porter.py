import unittest

from samples import LARGEST, any_values, mixed_halls
from shoeparty import errors
from shoeparty.values import Porter, Shelf


class PorterTest(unittest.TestCase):
    def check(self, porter, sizes, served):
        self.assertIs(type(porter.left), Shelf)
        self.assertEqual((porter.left.sizes, repr(porter.served)), (sizes, repr(served)))

    def test_made_of_a_shelf_only(self):
        for value in [*any_values(), (1, 2), [1, 2], (Shelf((1,)),), Porter(Shelf((1,))), Shelf]:
            with self.subTest(value=value), self.assertRaises(errors.BadShelf) as caught:
                Porter(value)
            self.assertIs(type(caught.exception), errors.BadShelf)
            self.assertIs(caught.exception.value, value)

    def test_a_new_porter(self):
        for sizes in [(), (4,), (9, 4, 4), (7,) * 100]:
            self.check(Porter(Shelf(sizes)), tuple(sorted(sizes)), 0)

    def test_takes_the_smallest_pair_that_fits(self):
        porter = Porter(Shelf((9, 4, 6, 2)))
        self.assertEqual(repr(porter(3)), "4")
        self.check(porter, (2, 6, 9), 1)
        self.assertEqual(repr(porter(3)), "6")
        self.check(porter, (2, 9), 2)
        self.assertEqual(repr(porter(9)), "9")
        self.check(porter, (2,), 3)
        self.assertIsNone(porter(3))
        self.check(porter, (2,), 3)
        self.assertEqual(repr(porter(1)), "2")
        self.check(porter, (), 4)
        self.assertIsNone(porter(1))
        self.check(porter, (), 4)

    def test_no_pair_fits(self):
        porter = Porter(Shelf((4, 9)))
        for foot in [10, 11, LARGEST]:
            self.assertIsNone(porter(foot))
            self.check(porter, (4, 9), 0)
        self.assertIsNone(Porter(Shelf(()))(1))
        self.assertEqual(Porter(Shelf((LARGEST,)))(LARGEST), LARGEST)
        self.assertEqual(Porter(Shelf((LARGEST,)))(1), LARGEST)
        self.assertIsNone(Porter(Shelf((LARGEST - 1,)))(LARGEST))

    def test_equal_sizes(self):
        porter = Porter(Shelf((5, 5, 5, 8)))
        for served, left in enumerate([(5, 5, 8), (5, 8), (8,), ()]):
            self.assertEqual(porter(5), 8 if served == 3 else 5)
            self.check(porter, left, served + 1)

    def test_wrong_feet(self):
        porter = Porter(Shelf((4, 9)))
        self.assertEqual(porter(2), 4)
        wrong = [value for value in any_values() if type(value) is not int or not 1 <= value <= LARGEST]
        for value in [*wrong, (4,), [4], "4", Shelf((4,)), porter, LARGEST + 1, 0, True, False]:
            with self.subTest(value=value), self.assertRaises(errors.BadFoot) as caught:
                porter(value)
            self.assertIs(type(caught.exception), errors.BadFoot)
            self.assertIs(caught.exception.value, value)
            self.check(porter, (9,), 1)
        self.assertEqual(porter(2), 9)

    def test_two_porters_of_one_shelf(self):
        shelf = Shelf((2, 4, 4))
        one, other = Porter(shelf), Porter(shelf)
        self.assertEqual([one(3), one(3), one(3)], [4, 4, None])
        self.check(other, (2, 4, 4), 0)
        self.assertEqual([other(1), other(1)], [2, 4])
        self.check(one, (2,), 2)
        self.check(other, (4,), 2)
        self.check(Porter(shelf), (2, 4, 4), 0)
        self.assertEqual(shelf.sizes, (2, 4, 4))

    def test_a_porter_of_what_another_one_left(self):
        one = Porter(Shelf((2, 4)))
        one(2)
        other = Porter(one.left)
        self.assertEqual(other(1), 4)
        self.check(one, (4,), 1)
        self.check(other, (), 1)

    def test_what_left_returned_before_does_not_change(self):
        shelf = Shelf((6, 2, 4))
        porter = Porter(shelf)
        before = [porter.left]
        for foot in [3, 1, 7, 5]:
            porter(foot)
            before.append(porter.left)
        self.assertEqual([left.sizes for left in before], [(2, 4, 6), (2, 6), (6,), (6,), ()])
        self.assertEqual(shelf.sizes, (2, 4, 6))

    def test_large_shelves(self):
        for feet, pairs in mixed_halls(10, 30, 60, 100):
            porter = Porter(Shelf(pairs))
            left, served = sorted(pairs), 0
            for foot in feet:
                taken = min([size for size in left if size >= foot], default=None)
                if taken is not None:
                    left.remove(taken)
                    served += 1
                self.assertEqual(repr(porter(foot)), repr(taken))
                self.check(porter, tuple(left), served)


if __name__ == "__main__":
    unittest.main()
