import unittest

from models import NAMES, Draw, Model, PartyCase, other_values, seen, wrong_numbers, wrong_sizes
from samples import H, S, T, any_values, large_halls, least_numbers, mixed_halls, small_halls, with_parts_replaced
from shoeparty.halls import hall_error
from shoeparty.parties import Party, PledgedParty
from shoeparty.pledges import Pledge

LIMIT = 1000
TWENTY = (5,) * 20


class MadeTest(PartyCase):
    def test_each_pledge_of_halls(self):
        for hall in [S, T, H, *small_halls(), *large_halls()]:
            fewest = least_numbers(hall)[1]
            for pledge in range(fewest + 1):
                party = PledgedParty(hall, pledge)
                self.check(party, Model(hall))
                self.assertEqual(repr(party.pledge), repr(pledge))
            for pledge in [fewest + 1, fewest + 2, 20, 21, LIMIT]:
                if pledge > fewest:
                    self.check_raises("TooFewServed", [fewest], PledgedParty, hall, pledge)

    def test_both_classes(self):
        party = PledgedParty(S, 1)
        self.assertIsInstance(party, Party)
        self.assertIsInstance(party, Pledge)
        self.assertTrue(issubclass(PledgedParty, Party) and issubclass(PledgedParty, Pledge))
        self.assertNotIsInstance(Party(S), Pledge)
        self.assertNotIsInstance(Party(S), PledgedParty)
        self.assertNotIsInstance(Pledge(1), Party)
        self.assertEqual(repr([PledgedParty.MOST_EDITS, party.MOST_EDITS]), "[60, 60]")
        self.assertLessEqual({"hall", "most", "fewest", "pledge"}, set(vars(party)))

    def test_bad_hall_comes_first(self):
        wrong = [*any_values(), *other_values(), *with_parts_replaced(((2, 3), (4,)), [None, True, 0, "1", ()])]
        for value in wrong:
            error = hall_error(value)
            if error is not None:
                for pledge in [0, 1, LIMIT, -1, None, True, "1"]:
                    with self.assertRaises(ValueError) as caught:
                        PledgedParty(value, pledge)
                    self.assertEqual(type(caught.exception).__name__, "BadHall")
                    self.assertEqual(repr(caught.exception.error), repr(error))

    def test_then_bad_number(self):
        for hall in [S, ((7,), ())]:
            for value in wrong_numbers(LIMIT):
                self.check_raises("BadNumber", [value], PledgedParty, hall, value)

    def test_then_too_few_served(self):
        self.check_raises("TooFewServed", [1], PledgedParty, S, 2)
        self.check_raises("TooFewServed", [0], PledgedParty, ((7,), ()), 1)
        self.check_raises("TooFewServed", [2], PledgedParty, H, LIMIT)


class EditTest(PartyCase):
    def test_each_edit_of_halls(self):
        for hall in [S, T, H, *list(small_halls())[::3], *mixed_halls(4, 5, 4, 4)]:
            for pledge in range(least_numbers(hall)[1] + 1):
                for name in NAMES:
                    for value in range(6):
                        self.follow(PledgedParty(hall, pledge), Model(hall, pledge), name, value)

    def test_the_number_that_there_would_be(self):
        party = PledgedParty(((2, 3), (3, 4)), 2)
        self.check_refused(party, "TooFewServed", [1], party.take, 0)
        self.check_refused(party, "TooFewServed", [1], party.take, 1)
        self.check_refused(party, "TooFewServed", [1], party.leave, 0)
        self.assertEqual(party.come(5), 1)
        self.assertEqual(party.undo(), 0)
        self.assertEqual([party.put(1), party.take(2)], [1, 2])
        self.check_refused(party, "TooFewServed", [1], party.take, 0)

    def test_no_pledge_at_all(self):
        party, model = PledgedParty(S, 0), Model(S, 0)
        for name, value in [("take", 0), ("take", 0), ("take", 0), ("leave", 1), ("leave", 0), ("put", 9)]:
            self.follow(party, model, name, value)

    def test_after_all_other_errors(self):
        hall = ((5,), TWENTY)
        party = PledgedParty(hall, 1)
        self.check_refused(party, "LastGuest", [], party.leave, 0)
        self.check_refused(party, "TooManyPairs", [], party.put, 1)
        party = PledgedParty(((5, 5), (5, 5)), 2)
        for name in NAMES:
            wrong = wrong_sizes() if name in ("come", "put") else wrong_numbers(1)
            error = {"come": "BadFoot", "put": "BadSize", "leave": "NoGuest", "take": "NoPair"}[name]
            for value in wrong:
                self.check_refused(party, error, [value], getattr(party, name), value)
            self.check(party, Model(party.hall))

    def test_after_too_many_edits(self):
        party = PledgedParty(((5, 5), (5, 5)), 2)
        for _ in range(30):
            party.put(1)
            party.take(2)
        for name in ["leave", "take"]:
            self.check_refused(party, "TooManyEdits", [], getattr(party, name), 0)
        party.undo()
        party.undo()
        for name in ["leave", "take"]:
            self.check_refused(party, "TooFewServed", [1], getattr(party, name), 0)

    def test_undo_is_never_refused(self):
        draw = Draw(21)
        for hall in [S, T, H, *mixed_halls(6, 5, 4, 5)]:
            for pledge in range(least_numbers(hall)[1] + 1):
                party, model = PledgedParty(hall, pledge), Model(hall, pledge)
                for _ in range(40):
                    name, value = draw.edit(party.hall, 5)
                    self.follow(party, model, name, value)
                    if draw.below(4) == 0 and model.done:
                        self.assertEqual(repr(party.undo()), repr(model.undo()))
                        self.check_versions(party, model)
                self.assertGreaterEqual(party.fewest, pledge)
                while model.done:
                    self.assertEqual(repr(party.undo()), repr(model.undo()))
                    self.check(party, model)
                self.check_refused(party, "NothingToUndo", [], party.undo)
                self.assertEqual(repr(party.pledge), repr(pledge))


class BatchTest(PartyCase):
    def test_too_few_served_is_one_of_the_errors_of_edits(self):
        hall = ((2, 3), (3, 4))
        for batch, index in [
            ([("take", 0)], 0), ([("put", 9), ("take", 0), ("take", 0)], 2), ([("take", 0), ("put", 9)], 0),
            ([("come", 9), ("leave", 0), ("leave", 2)], 1), ([("put", 1), ("take", 2), ("take", 1), ("put", 9)], 2),
        ]:
            party = PledgedParty(hall, 2)
            self.check_refused(party, "Rejected", [index], party.attempt, batch)
            calls = []
            self.check_refused(party, "Rejected", [index], party.attempt, batch, watch=calls.append)
            self.assertEqual(len(calls), index)
            self.assertEqual(party.attempt(batch[:index]), index)

    def test_a_batch_that_keeps_the_pledge(self):
        party, model = PledgedParty(((2, 3), (3, 4)), 2), Model(((2, 3), (3, 4)), 2)
        batch = [("put", 9), ("take", 0), ("come", 1), ("leave", 0)]
        self.assertEqual(party.attempt(batch, watch=lambda one: None), 4)
        for name, value in batch:
            model.edit(name, value)
        self.check_versions(party, model)

    def test_an_error_behind_the_end_is_not_met(self):
        party = PledgedParty(((2, 3), (3, 4)), 2)
        self.assertEqual(party.attempt([("put", 9), ("take", 0), ("take", 0)], watch=lambda one: len(one) == 2), 2)
        self.assertEqual(party.hall, ((2, 3), (4, 9)))

    def test_an_exception_of_watch(self):
        party = PledgedParty(((2, 3), (3, 4)), 2)

        def watch(one):
            one.spare(1)

        self.check_refused(party, "TooFewServed", [1], party.attempt, [("put", 9)], watch=watch)
        self.assertEqual(party.put(9), 1)

    def test_busy_comes_first(self):
        party = PledgedParty(((2, 3), (3, 4)), 2)
        before = []

        def watch(one):
            for action, value in [(one.take, 0), (one.leave, 0), (one.take, None), (one.attempt, [("take", 0)])]:
                self.check_refused(one, "Busy", [], action, value)
            before.append(len(one))

        self.assertEqual(party.attempt([("put", 1), ("put", 1)], watch=watch), 2)
        self.assertEqual(before, [1, 2])


class SpareTest(PartyCase):
    def check_spare(self, party, pledge):
        before = seen(party)
        for number in [pledge, pledge + 1, 20, LIMIT]:
            self.assertEqual(repr(party.spare(number)), repr(number - pledge))
        for number in range(pledge):
            self.check_raises("TooFewServed", [number], party.spare, number)
        for value in wrong_numbers(LIMIT):
            self.check_raises("BadNumber", [value], party.spare, value)
        self.assertEqual(seen(party), before)
        self.assertEqual(repr(party.pledge), repr(pledge))

    def test_as_on_any_pledge(self):
        for pledge in [0, 1, 2]:
            party = PledgedParty(((2, 3), (3, 4)), pledge)
            self.check_spare(party, pledge)
            party.put(9)
            self.check_spare(party, pledge)
            self.assertEqual(party.spare(party.fewest), 2 - pledge)

    def test_also_while_watch_runs(self):
        party = PledgedParty(((2, 3), (3, 4)), 1)
        told = []

        def watch(one):
            self.check_spare(one, 1)
            told.append(one.spare(one.fewest))

        self.assertEqual(party.attempt([("take", 0), ("put", 7)], watch=watch), 2)
        self.assertEqual(told, [0, 1])

    def test_queries(self):
        party, model = PledgedParty(H, 2), Model(H, 2)
        self.follow(party, model, "put", 50)
        self.follow(party, model, "leave", 0)
        self.check_versions(party, model)
        self.assertEqual(str(party), "4 guests, 6 pairs, served 2 to 4, 2 edits")
        self.check_refused(party, "NoVersion", [3], party.state, version=3)
        self.assertEqual(party.certificate(2, version=0), Party(H).certificate(2))
        self.assertEqual(list(party.walk(version=1)), list(Party(party.state(version=1)).walk()))


if __name__ == "__main__":
    unittest.main()
