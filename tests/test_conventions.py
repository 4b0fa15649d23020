import unittest

from samples import H, S, T, mixed_halls
from shoeparty import errors
from shoeparty.halls import counts_at, hall_error, is_hall
from shoeparty.more import can_miss, fewest_larger, fewest_more, run_leaving, run_with, run_without
from shoeparty.numbers import (
    fewest_served, most_served, possible_certificate, possible_certificate_holds, sure_certificate,
    sure_certificate_holds,
)
from shoeparty.runs import is_run, large_run, left_by, served_by, small_run
from shoeparty.texts import hall_text, parse_hall
from shoeparty.values import Porter, Shelf


def results(hall):
    order = tuple(range(len(hall[0])))
    run = small_run(hall, order)
    found = [is_hall(hall), hall_error(hall), counts_at(hall, 3), run, large_run(hall, order), is_run(hall, run)]
    found += [served_by(hall, run), left_by(hall, run), most_served(hall), fewest_served(hall)]
    for number in range(len(order) + 2):
        sure = sure_certificate(hall, number)
        possible = possible_certificate(hall, number)
        found += [sure, sure_certificate_holds(hall, number, sure)]
        found += [possible, possible_certificate_holds(hall, number, possible)]
        found += [run_with(hall, number), fewest_more(hall, number), fewest_larger(hall, number)]
    for guest in order:
        found += [run_without(hall, guest), can_miss(hall, order, guest), can_miss(hall, order[::-1], guest)]
    found += [run_leaving(hall, pair) for pair in range(len(hall[1]))]
    return found + [hall_text(hall), parse_hall(hall_text(hall))] + values(hall[1], hall[0])


def values(sizes, others):
    shelf, other = Shelf(sizes), Shelf(others)
    porter = Porter(shelf + other)
    found = [shelf.sizes, str(shelf), len(shelf), shelf == other, other in shelf, (shelf + other - shelf).sizes]
    return found + [porter(3), porter.left.sizes, porter.served, shelf.sizes, other.sizes]


class ConventionsTest(unittest.TestCase):
    def test_equal_calls_return_equal_results_and_leave_the_hall_as_it_is(self):
        halls = [S, H, T, *mixed_halls(5, 25)]
        first = [repr(results(hall)) for hall in halls]
        kept = repr(halls)
        # Other calls stand between the equal ones, and equal halls are not the same object.
        again = [repr(results((tuple(list(feet)), tuple(list(pairs))))) for feet, pairs in reversed(halls)]
        self.assertEqual(first, again[::-1])
        self.assertEqual(repr(halls), kept)

    def test_a_list_that_is_changed_later_is_asked_anew(self):
        feet = [2, 3]
        value = (feet, (2, 4))
        self.assertEqual(hall_error(value), (None, "feet"))
        pairs = [0]
        self.assertEqual(hall_error(((2,), (pairs,))), (0, "pair"))
        step = [1, 1]
        self.assertIs(is_run(S, ((0, 0), step)), False)
        self.assertEqual((feet, pairs, step), ([2, 3], [0], [1, 1]))

    def test_an_error_keeps_the_very_list_that_was_passed(self):
        sizes = [3, 1]
        for action, error in [(Shelf, errors.BadShelf), (Porter(Shelf((4,))), errors.BadFoot)]:
            with self.assertRaises(error) as caught:
                action(sizes)
            self.assertIs(caught.exception.value, sizes)
        self.assertEqual(sizes, [3, 1])

    def test_shelves_and_porters_are_values_like_others(self):
        for value in [Shelf(()), Shelf((2, 3)), Porter(Shelf((2, 3)))]:
            self.assertEqual(hall_error(value), (None, "hall"))
            self.assertEqual(hall_error((value, value)), (None, "feet"))
            self.assertEqual(hall_error(((2, value), (2,))), (1, "foot"))
            self.assertEqual(hall_error(((2,), value)), (None, "pairs"))
            self.assertEqual(hall_error(((2,), (value,))), (0, "pair"))
            for wrong in [value, (value, value), ((0, value), (1, -1)), ((value, 0), (1, 1))]:
                self.assertIs(is_run(S, wrong), False)
                for proof in [wrong, ("run", wrong), ("table", wrong), ("size", wrong), (wrong, (0, 1))]:
                    self.assertIs(sure_certificate_holds(S, 1, proof), False)
                    self.assertIs(possible_certificate_holds(S, 1, proof), False)


if __name__ == "__main__":
    unittest.main()
