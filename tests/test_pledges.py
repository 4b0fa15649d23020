import unittest

from models import PartyCase, wrong_numbers
from shoeparty.pledges import Pledge

LIMIT = 1000


class PledgeTest(PartyCase):
    def test_numbers_up_to_the_limit(self):
        for number in [0, 1, 2, 20, 500, LIMIT - 1, LIMIT]:
            self.assertEqual(repr(Pledge(number).pledge), repr(number))

    def test_no_numbers(self):
        for value in wrong_numbers(LIMIT):
            with self.subTest(value=value):
                self.check_raises("BadNumber", [value], Pledge, value)

    def test_spare(self):
        for pledge in [0, 1, 3, 500, LIMIT]:
            made = Pledge(pledge)
            for number in [pledge, pledge + 1, pledge + 2, 600, LIMIT]:
                if pledge <= number <= LIMIT:
                    self.assertEqual(repr(made.spare(number)), repr(number - pledge))
            self.assertEqual(repr(made.pledge), repr(pledge))

    def test_less_than_the_pledge(self):
        for pledge in [1, 2, 3, 500, LIMIT]:
            made = Pledge(pledge)
            for number in [0, 1, pledge // 2, pledge - 1]:
                if number < pledge:
                    self.check_raises("TooFewServed", [number], made.spare, number)
            self.assertEqual(repr(made.pledge), repr(pledge))
            self.assertEqual(made.spare(LIMIT), LIMIT - pledge)

    def test_spare_of_no_numbers(self):
        for pledge in [0, 1, LIMIT]:
            made = Pledge(pledge)
            for value in wrong_numbers(LIMIT):
                with self.subTest(pledge=pledge, value=value):
                    self.check_raises("BadNumber", [value], made.spare, value)
            self.assertEqual(repr(made.pledge), repr(pledge))

    def test_two_pledges(self):
        one, other = Pledge(2), Pledge(5)
        self.assertEqual((one.pledge, other.pledge, one.spare(5), other.spare(5)), (2, 5, 3, 0))


if __name__ == "__main__":
    unittest.main()
