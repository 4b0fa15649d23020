import unittest

from samples import H, S, T, mixed_halls
from shoeparty.halls import counts_at, hall_error, is_hall
from shoeparty.numbers import (
    fewest_served, most_served, possible_certificate, possible_certificate_holds, sure_certificate,
    sure_certificate_holds,
)
from shoeparty.runs import is_run, large_run, left_by, served_by, small_run


def results(hall):
    order = tuple(range(len(hall[0])))
    run = small_run(hall, order)
    found = [is_hall(hall), hall_error(hall), counts_at(hall, 3), run, large_run(hall, order), is_run(hall, run)]
    found += [served_by(hall, run), left_by(hall, run), most_served(hall), fewest_served(hall)]
    for number in range(len(order) + 2):
        sure = sure_certificate(hall, number)
        possible = possible_certificate(hall, number)
        found += [sure, sure_certificate_holds(hall, number, sure)]
        found += [possible, possible_certificate_holds(hall, number, possible)]
    return found


class ConventionsTest(unittest.TestCase):
    def test_equal_calls_return_equal_results_and_leave_the_hall_as_it_is(self):
        halls = [S, H, T, *mixed_halls(5, 25)]
        first = [repr(results(hall)) for hall in halls]
        kept = repr(halls)
        # Other calls stand between the equal ones, and equal halls are not the same object.
        again = [repr(results((tuple(list(feet)), tuple(list(pairs))))) for feet, pairs in reversed(halls)]
        self.assertEqual(first, again[::-1])
        self.assertEqual(repr(halls), kept)

    def test_a_list_that_is_changed_later_is_asked_anew(self):
        feet = [2, 3]
        value = (feet, (2, 4))
        self.assertEqual(hall_error(value), (None, "feet"))
        pairs = [0]
        self.assertEqual(hall_error(((2,), (pairs,))), (0, "pair"))
        step = [1, 1]
        self.assertIs(is_run(S, ((0, 0), step)), False)
        self.assertEqual((feet, pairs, step), ([2, 3], [0], [1, 1]))


if __name__ == "__main__":
    unittest.main()
