import copy
import unittest

from models import NAMES, PartyCase, other_values, seen
from samples import H, S, T, any_values, mixed_halls, nested
from shoeparty import errors
from shoeparty.counting import count_runs, count_served, each_run
from shoeparty.halls import counts_at, hall_error, is_hall
from shoeparty.more import can_miss, fewest_larger, fewest_more, run_leaving, run_with, run_without
from shoeparty.numbers import (
    fewest_served, most_served, possible_certificate, possible_certificate_holds, sure_certificate,
    sure_certificate_holds,
)
from shoeparty.parties import Party, PledgedParty
from shoeparty.pledges import Pledge
from shoeparty.runs import is_run, large_run, left_by, served_by, small_run
from shoeparty.shells import Shell
from shoeparty.texts import hall_text, parse_hall
from shoeparty.values import Porter, Shelf


def results(hall):
    order = tuple(range(len(hall[0])))
    run = small_run(hall, order)
    found = [is_hall(hall), hall_error(hall), counts_at(hall, 3), run, large_run(hall, order), is_run(hall, run)]
    found += [served_by(hall, run), left_by(hall, run), most_served(hall), fewest_served(hall)]
    for number in range(len(order) + 2):
        sure = sure_certificate(hall, number)
        possible = possible_certificate(hall, number)
        found += [sure, sure_certificate_holds(hall, number, sure)]
        found += [possible, possible_certificate_holds(hall, number, possible)]
        found += [run_with(hall, number), fewest_more(hall, number), fewest_larger(hall, number)]
    for guest in order:
        found += [run_without(hall, guest), can_miss(hall, order, guest), can_miss(hall, order[::-1], guest)]
    found += [run_leaving(hall, pair) for pair in range(len(hall[1]))]
    found += [next(each_run(hall)), hall_text(hall), parse_hall(hall_text(hall))]
    if len(order) <= 6:
        found += [count_runs(hall), count_served(hall)]
    return found + values(hall[1], hall[0]) + parties(hall)


def values(sizes, others):
    shelf, other = Shelf(sizes), Shelf(others)
    porter = Porter(shelf + other)
    found = [shelf.sizes, str(shelf), len(shelf), shelf == other, other in shelf, (shelf + other - shelf).sizes]
    return found + [porter(3), porter.left.sizes, porter.served, shelf.sizes, other.sizes]


def parties(hall):
    """What two parties tell while they are edited, each twice while nothing changes."""
    party, pledged = Party(hall), PledgedParty(hall, 0)
    found = []
    for one in [party, pledged]:
        shell = Shell(one)
        for edit in [("take", 0), ("put", 9), ("leave", 0), ("come", 41)]:
            found.append(one.attempt([edit], watch=lambda two: found.append(seen(two))))
            found += [seen(one), seen(one), list(one.walk(version=0)), one.certificate(2, version=1)]
            found += [shell.execute(line) for line in ["party", "most", "sure 2", "without 0"] * 2 + ["nobody"]]
        found += [one.undo(), seen(one), one == Party(one.hall), one.attempt([("take", 0)])]
    return found + [pledged.pledge, pledged.spare(3), Pledge(2).spare(3), str(Party.read(hall_text(hall)))]


class ConventionsTest(unittest.TestCase):
    def test_equal_calls_return_equal_results_and_leave_the_hall_as_it_is(self):
        halls = [S, H, T, *mixed_halls(5, 25)]
        first = [repr(results(hall)) for hall in halls]
        kept = repr(halls)
        # Other calls stand between the equal ones, and equal halls are not the same object.
        again = [repr(results((tuple(list(feet)), tuple(list(pairs))))) for feet, pairs in reversed(halls)]
        self.assertEqual(first, again[::-1])
        self.assertEqual(repr(halls), kept)

    def test_a_list_that_is_changed_later_is_asked_anew(self):
        feet = [2, 3]
        value = (feet, (2, 4))
        self.assertEqual(hall_error(value), (None, "feet"))
        pairs = [0]
        self.assertEqual(hall_error(((2,), (pairs,))), (0, "pair"))
        step = [1, 1]
        self.assertIs(is_run(S, ((0, 0), step)), False)
        self.assertEqual((feet, pairs, step), ([2, 3], [0], [1, 1]))

    def test_an_error_keeps_the_very_list_that_was_passed(self):
        sizes = [3, 1]
        for action, error in [(Shelf, errors.BadShelf), (Porter(Shelf((4,))), errors.BadFoot)]:
            with self.assertRaises(error) as caught:
                action(sizes)
            self.assertIs(caught.exception.value, sizes)
        self.assertEqual(sizes, [3, 1])

    def test_shelves_and_porters_are_values_like_others(self):
        for value in [Shelf(()), Shelf((2, 3)), Porter(Shelf((2, 3)))]:
            self.assertEqual(hall_error(value), (None, "hall"))
            self.assertEqual(hall_error((value, value)), (None, "feet"))
            self.assertEqual(hall_error(((2, value), (2,))), (1, "foot"))
            self.assertEqual(hall_error(((2,), value)), (None, "pairs"))
            self.assertEqual(hall_error(((2,), (value,))), (0, "pair"))
            for wrong in [value, (value, value), ((0, value), (1, -1)), ((value, 0), (1, 1))]:
                self.assertIs(is_run(S, wrong), False)
                for proof in [wrong, ("run", wrong), ("table", wrong), ("size", wrong), (wrong, (0, 1))]:
                    self.assertIs(sure_certificate_holds(S, 1, proof), False)
                    self.assertIs(possible_certificate_holds(S, 1, proof), False)


class AnyValuesTest(PartyCase):
    """Values that are long, large or nested deep raise the errors that the points describe, and no others."""

    def values(self):
        found = [10 ** 39, 10 ** 40 - 1, 1 - 10 ** 40, "x" * 2000, "1" * 2000, "\n" * 2000, "1," * 1000, "put 1 " * 300]
        found += [nested(tuple, 20), nested(list, 20), nested(dict, 20)]
        found += [("come", nested(list, 18)), [("come", nested(list, 17))]]
        return found + [("put", 10 ** 39), [("put", 10 ** 39)], [("put", "9" * 2000)], (10 ** 39,), (("x" * 2000, 1),)]

    def calls(self, party):
        found = [party.come, party.leave, party.put, party.take, party.attempt, party.certificate]
        found += [lambda value: party.state(version=value), lambda value: list(party.walk(version=value))]
        found += [lambda value: party.certificate(value, version=value)]
        found += [lambda value: party.attempt([("leave", value)]), lambda value: party.attempt([(value, 1)])]
        found += [lambda value: party.attempt([value]), Party, Party.read, Pledge, Pledge(1).spare]
        return found + [lambda value: PledgedParty(value, value), lambda value: PledgedParty(S, value)]

    def test_calls_that_raise_an_error_raise_one_of_the_document(self):
        described = (
            errors.BadFoot, errors.NoGuest, errors.BadSize, errors.NoPair, errors.BadEdits, errors.BadEdit,
            errors.Rejected, errors.BadNumber, errors.NoVersion, errors.BadHall, errors.BadText,
        )
        for value in self.values():
            for party in [Party(S), PledgedParty(S, 1)]:
                before = seen(party)
                for action in self.calls(party):
                    kept = copy.deepcopy(value)
                    with self.assertRaises(described):
                        action(value)
                    self.assertEqual(repr(value), repr(kept))
                self.assertEqual(Shell(party).execute(value), "unknown command")
                self.assertIs(party == value, False)
                self.assertEqual(seen(party), before)

    def test_arguments_are_not_changed(self):
        for value in [*any_values(), *other_values()]:
            kept = repr(value)
            for party in [Party(S), PledgedParty(S, 1)]:
                for action in self.calls(party):
                    try:
                        action(value)
                    except (errors.PartyError, LookupError):
                        pass
                Shell(party).execute(value)
            if not isinstance(value, Party):
                self.assertEqual(repr(value), kept)

    def test_an_error_keeps_the_very_value_that_was_passed(self):
        value = [1, [2]]
        party = Party(S)
        for name, error in zip(NAMES, ["BadFoot", "NoGuest", "BadSize", "NoPair"]):
            self.check_refused(party, error, [value], getattr(party, name), value)
        self.check_refused(party, "NoVersion", [value], party.state, version=value)
        self.check_refused(party, "BadNumber", [value], party.certificate, value)
        self.assertEqual(value, [1, [2]])

    def test_a_batch_is_not_changed(self):
        for batch in [[("put", 9), ("take", 0)], [("put", 9), ("take", 7)], [("put", 9), None]]:
            kept = list(batch)
            try:
                Party(S).attempt(batch)
            except errors.PartyError:
                pass
            self.assertEqual(batch, kept)

    def test_parties_and_their_parts_are_values_like_others(self):
        for value in [Party(S), PledgedParty(S, 1), Pledge(1), Shell(Party(S))]:
            self.assertEqual(hall_error(value), (None, "hall"))
            self.assertEqual(hall_error(((2, value), (2,))), (1, "foot"))
            self.assertIs(is_run(S, value), False)
            self.assertIs(is_run(S, ((0, value), (1, -1))), False)
            self.assertIs(sure_certificate_holds(S, 1, ("table", (value, value))), False)
            self.assertIs(possible_certificate_holds(S, 1, (value, 3)), False)
            self.assertIs(value in Shelf((1,)), False)
            self.assertIs(Shelf((1,)) == value, False)
            self.check_raises("BadShelf", [value], Shelf, value)
            self.check_raises("BadShelf", [value], Porter, value)
            self.check_raises("BadText", [None], parse_hall, value)


if __name__ == "__main__":
    unittest.main()
