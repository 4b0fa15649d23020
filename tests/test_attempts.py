import unittest

from models import NAMES, Draw, Model, PartyCase, other_values, seen, wrong_numbers, wrong_sizes
from samples import H, S, T, any_values, mixed_halls
from shoeparty import errors
from shoeparty.parties import Party
from shoeparty.shells import Shell
from shoeparty.values import Shelf

TWENTY = (5,) * 20
RIGHT = [("come", 4), ("put", 9), ("leave", 0), ("take", 1)]
ALL_ERRORS = [
    errors.Busy(), errors.TooManyEdits(), errors.Rejected(7), errors.BadEdit(3), errors.NoGuest(1), errors.NoPair(2),
    errors.NoVersion(None), errors.NoPlace(0), errors.TooFewServed(0), errors.PartyError("x"), ValueError("x"),
    LookupError("x"), KeyError(1), IndexError(1), TypeError(), ZeroDivisionError(), AttributeError(), RuntimeError(),
    StopIteration(), Exception(), BaseException(), KeyboardInterrupt(), SystemExit(2), GeneratorExit(),
]


def with_edits(many, hall=S):
    """A party with so many edits that stand, and its model."""
    party, model = Party(hall), Model(hall)
    for at in range(many):
        name, value = ("put", at + 1) if at % 2 == 0 else ("take", 0)
        getattr(party, name)(value)
        model.edit(name, value)
    return party, model


class BatchTest(PartyCase):
    def test_lists_and_tuples_of_0_to_20_edits(self):
        draw = Draw(3)
        for kind in [list, tuple]:
            for many in range(21):
                for hall in [S, ((7,), ())]:
                    party, model = Party(hall), Model(hall)
                    batch = []
                    while len(batch) < many:
                        name, value = draw.edit(model.hall(), 6)
                        if model.error(name, value) is None:
                            model.edit(name, value)
                            batch.append((name, value))
                    self.assertEqual(repr(party.attempt(kind(batch))), repr(many))
                    self.check_versions(party, model)

    def test_the_empty_batch(self):
        party, model = with_edits(3)
        for batch in [[], ()]:
            self.assertEqual(repr(party.attempt(batch)), "0")
            self.assertEqual(repr(party.attempt(batch, watch=lambda party: self.fail("called"))), "0")
            self.assertEqual(repr(party.attempt(batch, watch=None)), "0")
        self.check_versions(party, model)

    def test_each_edit_can_be_undone_by_itself(self):
        party, model = Party(S), Model(S)
        self.assertEqual(party.attempt(RIGHT), 4)
        for name, value in RIGHT:
            model.edit(name, value)
        self.check_versions(party, model)
        for left in [3, 2, 1, 0]:
            self.assertEqual(repr(party.undo()), repr(left))
            model.undo()
            self.check_versions(party, model)
        self.check_refused(party, "NothingToUndo", [], party.undo)

    def test_batches_one_after_another(self):
        party, model = Party(S), Model(S)
        for _ in range(3):
            batch = [("put", 5), ("take", 0)] * 10
            self.assertEqual(party.attempt(batch), 20)
            for name, value in batch:
                model.edit(name, value)
        self.check_versions(party, model)
        self.assertEqual(len(party), 60)
        self.check_refused(party, "Rejected", [0], party.attempt, [("put", 5)])
        self.assertEqual(party.attempt([]), 0)

    def test_arguments_are_passed_as_described(self):
        self.assertRaises(TypeError, Party(S).attempt, [], None)
        self.assertEqual(Party(S).attempt([("put", 1)], watch=None), 1)


class WrongBatchTest(PartyCase):
    def refuse(self, party, name, fields, batch):
        self.check_refused(party, name, fields, party.attempt, batch)
        self.check_refused(party, name, fields, party.attempt, batch, watch=lambda party: self.fail("called"))

    def test_more_than_20_edits(self):
        party, _ = with_edits(2)
        for many in [21, 22, 1000]:
            for batch in [[("put", 1)] * many, (("put", 1),) * many, [None] * many, tuple(range(many))]:
                self.refuse(party, "BadEdits", [], batch)

    def test_no_lists_or_tuples(self):
        party, _ = with_edits(2)
        odd = [value for value in any_values() + other_values() if type(value) not in (list, tuple)]
        for value in [*odd, {"put": 1}, "put", 1, None, iter([("put", 1)]), range(3), {("put", 1)}, Shelf((1,))]:
            self.refuse(party, "BadEdits", [], value)

    def test_items_that_are_not_edits(self):
        party, _ = with_edits(2)
        wrong = [
            ("undo", 1), ("Come", 1), ("come ", 1), ("", 1), ("attempt", []), ("_edit", 1), (None, 1), (1, "come"),
            (("come",), 1), (["come"], 1), ({}, 1), (True, 1), (b"come", 1), ("come",), ("come", 1, 2),
            ("come", 1, None), (),
            ["come", 1], "come", "ab", "come 1", None, 1, True, {"come": 1}, {"come": 1, "put": 2}, ("walk", 1),
            ("hall", 1),
            ("put", 1, 1), (1, 1), ("state", None), ("come,", 1), ("co", "me"), (Shelf((1,)), 1), (party, 1), party,
        ]
        for item in [*wrong, *any_values(), *other_values()]:
            for before in range(4):
                batch = RIGHT[:before] + [item] + RIGHT
                self.refuse(party, "BadEdit", [before], batch)
                self.refuse(party, "BadEdit", [before], tuple(batch))
        self.refuse(party, "BadEdit", [19], [("put", 1)] * 19 + [None])

    def test_the_first_of_several(self):
        party = Party(S)
        self.refuse(party, "BadEdit", [1], [("put", 1), None, ("come",), None])
        self.refuse(party, "BadEdit", [0], [("come",), None])

    def test_no_edit_comes_before_an_edit_that_raises_an_error(self):
        party = Party(S)
        self.refuse(party, "BadEdit", [2], [("come", 0), ("take", 9), None])
        party, _ = with_edits(60)
        self.refuse(party, "BadEdit", [1], [("put", 1), ("puts", 1)])
        self.refuse(party, "BadEdits", [], [("put", 1)] * 21)
        self.refuse(party, "BadEdits", [], None)


class RejectedTest(PartyCase):
    def test_any_values_of_edits(self):
        party, _ = with_edits(2)
        for name in NAMES:
            wrong = wrong_sizes() if name in ("come", "put") else wrong_numbers(1)
            for value in wrong:
                self.check_refused(party, "Rejected", [0], party.attempt, [(name, value)])
                self.check_refused(party, "Rejected", [2], party.attempt, (("put", 3), ("take", 0), (name, value)))

    def test_each_place(self):
        for kind in [list, tuple]:
            for at in range(20):
                party, _ = with_edits(2)
                batch = [("put", 5), ("take", 0)] * 10
                batch[at] = ("leave", 2)
                self.check_refused(party, "Rejected", [at], party.attempt, kind(batch))

    def test_an_error_that_the_edits_before_bring_about(self):
        for hall, batch, index in [
            (((5,), ()), [("come", 6), ("leave", 0), ("leave", 0)], 2),
            ((TWENTY[:18], ()), [("come", 6), ("come", 7), ("come", 8)], 2),
            (((5,), TWENTY[:19]), [("put", 6), ("put", 7), ("take", 0)], 1),
            (S, [("take", 1), ("take", 1)], 1),
            (S, [("come", 9), ("leave", 2), ("leave", 2)], 2),
        ]:
            party = Party(hall)
            self.check_refused(party, "Rejected", [index], party.attempt, batch)
            self.assertEqual(party.attempt(batch[:index]), index)

    def test_the_one_edit_too_many(self):
        for many in range(41, 61):
            party, _ = with_edits(many)
            batch = [("put", 5), ("take", 0)] * 10
            self.check_refused(party, "Rejected", [60 - many], party.attempt, batch)
            self.assertEqual(party.attempt(batch[:60 - many]), 60 - many)
            self.assertEqual(len(party), 60)
        party, _ = with_edits(40)
        self.assertEqual((party.attempt(batch), len(party)), (20, 60))

    def test_the_party_can_be_edited_afterwards(self):
        party, model = with_edits(3)
        self.check_refused(party, "Rejected", [1], party.attempt, [("put", 5), ("put", 0)])
        self.follow(party, model, "come", 8)
        self.assertEqual(party.undo(), model.undo())
        self.check_versions(party, model)

    def test_watch_was_called_for_the_edits_before(self):
        for index in range(4):
            party = Party(S)
            calls = []
            batch = [("put", 5)] * index + [("take", 30), ("put", 6)]
            watch = lambda one: calls.append(len(one))
            self.check_refused(party, "Rejected", [index], party.attempt, batch, watch=watch)
            self.assertEqual(calls, list(range(1, index + 1)))


class WatchTest(PartyCase):
    def test_called_after_each_edit_with_this_party(self):
        for hall, start in [(S, 0), (H, 3), (T, 6)]:
            party, model = with_edits(start, hall)
            calls = []

            def watch(one):
                model.edit(*RIGHT[len(calls)])
                calls.append(one)
                self.check_versions(one, model)

            self.assertEqual(repr(party.attempt(RIGHT, watch=watch)), "4")
            self.assertEqual(len(calls), 4)
            self.assertTrue(all([one is party for one in calls]))
            self.check_versions(party, model)

    def test_queries_see_the_edits_that_are_done_so_far(self):
        told = []
        party, twin = Party(H), Party(H)
        self.assertEqual(party.attempt(RIGHT, watch=lambda one: told.append((seen(one), one == Party(one.hall)))), 4)
        for (name, value), (found, equal) in zip(RIGHT, told):
            getattr(twin, name)(value)
            self.assertEqual(found, seen(twin))
            self.assertIs(equal, True)

    def test_reading_another_party_while_watch_runs(self):
        texts = []
        self.assertEqual(Party(S).attempt([("put", 1)], watch=lambda one: texts.append(str(one.read("7 / -")))), 1)
        self.assertEqual(texts, [str(Party(((7,), ())))])

    def test_a_true_value_ends_the_batch(self):
        for value in [True, 1, -1, "0", " ", (None,), [0], {"": 0}, 10 ** 39, Shelf((1,)), object()]:
            for ended in range(4):
                party, model = with_edits(2)
                done = party.attempt(RIGHT, watch=lambda one: value if len(one) == 3 + ended else None)
                self.assertEqual(repr(done), repr(ended + 1))
                for name, worth in RIGHT[:ended + 1]:
                    model.edit(name, worth)
                self.check_versions(party, model)

    def test_a_false_value_goes_on(self):
        for value in [None, False, 0, "", (), [], {}, Shelf(())]:
            party, model = with_edits(2)
            self.assertEqual(repr(party.attempt(RIGHT, watch=lambda one: value)), "4")
            for name, worth in RIGHT:
                model.edit(name, worth)
            self.check_versions(party, model)

    def test_an_error_behind_the_end_is_not_met(self):
        party = Party(S)
        self.assertEqual(party.attempt([("put", 5), ("put", 0)], watch=lambda one: True), 1)
        self.assertEqual(party.edits(), (("put", 5),))
        party, _ = with_edits(59)
        self.assertEqual(party.attempt([("put", 5), ("put", 6)], watch=lambda one: len(one) == 60), 1)
        self.assertEqual(len(party), 60)

    def test_a_list_that_watch_changes_or_that_is_changed_later(self):
        batch = [("come", 4), ("put", 9), ("leave", 0)]
        party, model = Party(S), Model(S)

        def watch(one):
            batch[:] = [("undo", 1), None]

        for name, value in batch:
            model.edit(name, value)
        self.assertEqual(party.attempt(batch, watch=watch), 3)
        self.check_versions(party, model)
        batch.clear()
        self.check_versions(party, model)

    def test_a_list_that_watch_makes_longer(self):
        batch = [("put", 9)]
        party = Party(S)
        self.assertEqual(party.attempt(batch, watch=lambda one: batch.append(("put", 8))), 1)
        self.assertEqual((party.edits(), len(batch)), ((("put", 9),), 2))

    def test_a_watch_that_is_a_method(self):
        calls = []
        party = Party(S)
        self.assertEqual(party.attempt(RIGHT, watch=calls.append), 4)
        self.assertEqual(len(calls), 4)


class WatchErrorTest(PartyCase):
    def test_an_exception_of_any_kind_undoes_the_edits(self):
        for error in ALL_ERRORS:
            for at in range(4):
                party, _ = with_edits(3)
                before = seen(party)
                calls = []

                def watch(one):
                    calls.append(one)
                    if len(calls) == at + 1:
                        raise error

                with self.subTest(error=error, at=at):
                    with self.assertRaises(type(error)) as caught:
                        party.attempt(RIGHT, watch=watch)
                    self.assertIs(caught.exception, error)
                    self.assertEqual(len(calls), at + 1)
                    self.assertEqual(seen(party), before)

    def test_the_party_can_be_edited_afterwards(self):
        for error in ALL_ERRORS:
            party, model = with_edits(3)

            def watch(one):
                raise error

            self.assertRaises(type(error), party.attempt, RIGHT, watch=watch)
            self.follow(party, model, "come", 8)
            self.assertEqual(party.undo(), model.undo())
            self.assertEqual(party.attempt(RIGHT), 4)

    def test_a_truth_that_raises_an_error(self):
        class Odd:
            def __bool__(self):
                raise ZeroDivisionError()

        party, model = with_edits(3)
        before = seen(party)
        self.assertRaises(ZeroDivisionError, party.attempt, RIGHT, watch=lambda one: Odd())
        self.assertEqual(seen(party), before)
        self.follow(party, model, "come", 8)

    def test_no_function_of_one_argument(self):
        party, model = with_edits(3)
        before = seen(party)
        self.assertRaises(TypeError, party.attempt, RIGHT, watch=lambda: True)
        self.assertEqual(seen(party), before)
        self.follow(party, model, "come", 8)


def calls_on(party):
    """All calls that raise Busy, with right and with wrong values."""
    found = [(party.undo, ()), (party.attempt, ([],)), (party.attempt, ([("put", 1)],)), (party.attempt, (None,))]
    found += [(party.attempt, ([None] * 30,)), (party.attempt, ([("x", 1)],))]
    for action in [party.come, party.leave, party.put, party.take]:
        found += [(action, (value,)) for value in [0, 1, -1, 99, True, None, "1", (), [1], 10 ** 39]]
    return found


class BusyTest(PartyCase):
    def test_all_edits_are_refused_while_watch_runs(self):
        for start in [0, 3, 56]:
            party, model = with_edits(start)

            def watch(one):
                for action, values in calls_on(one):
                    self.check_refused(one, "Busy", [], action, *values)

            self.assertEqual(party.attempt(RIGHT, watch=watch), 4)
            for name, value in RIGHT:
                model.edit(name, value)
            self.check_versions(party, model)

    def test_also_in_the_first_edit_and_with_60_edits(self):
        party, _ = with_edits(59)
        told = []

        def watch(one):
            self.check_refused(one, "Busy", [], one.put, 1)
            told.append(len(one))

        self.assertEqual(party.attempt([("put", 4)], watch=watch), 1)
        self.assertEqual(told, [60])
        self.check_refused(party, "TooManyEdits", [], party.put, 1)

    def test_a_refused_attempt_does_not_end_the_watch(self):
        party = Party(S)

        def watch(one):
            for _ in range(3):
                self.check_refused(one, "Busy", [], one.attempt, [("put", 1)], watch=lambda other: True)
                self.check_refused(one, "Busy", [], one.come, 1)

        self.assertEqual(party.attempt(RIGHT, watch=watch), 4)

    def test_busy_that_watch_lets_through(self):
        for at in range(4):
            party, model = with_edits(3)
            before = seen(party)
            for action, values in calls_on(party):

                def watch(one):
                    if len(one) == 4 + at:
                        action(*values)

                self.check_raises("Busy", [], party.attempt, RIGHT, watch=watch)
                self.assertEqual(seen(party), before)
            self.follow(party, model, "come", 8)
            self.assertEqual(party.undo(), model.undo())
            self.assertEqual(party.attempt(RIGHT), 4)

    def test_another_party_can_be_edited(self):
        party, other = Party(S), Party(S)

        def watch(one):
            self.assertEqual(other.attempt([("put", 7), ("take", 0)], watch=lambda two: one.hall == two.hall), 2)
            other.come(3)
            other.undo()
            self.check_raises("Busy", [], one.come, 3)

        self.assertEqual(party.attempt([("put", 8), ("put", 9)], watch=watch), 2)
        self.assertEqual((party.hall, other.hall), ((S[0], (2, 4, 8, 9)), (S[0], (7, 7))))
        self.assertEqual((len(party), len(other)), (2, 4))

    def test_two_parties_whose_watches_edit_each_other(self):
        party, other = Party(S), Party(S)

        def edit_first(two):
            party.come(1)

        def watch(one):
            self.check_raises("Busy", [], other.attempt, [("put", 7)], watch=edit_first)
            self.assertEqual(len(other), 0)

        self.assertEqual(party.attempt([("put", 8)], watch=watch), 1)
        self.assertEqual((party.come(1), other.come(1)), (2, 1))

    def test_right_after_the_watch_has_ended_the_batch(self):
        party = Party(S)
        self.assertEqual(party.attempt(RIGHT, watch=lambda one: True), 1)
        self.assertEqual([party.put(3), party.undo(), party.undo()], [2, 1, 0])

    def test_a_shell_in_a_watch(self):
        party = Party(S)
        answers = []
        shell = Shell(party)
        lines = ["put 1", "undo", "party", "take"]
        self.assertEqual(party.attempt([("put", 3)], watch=lambda one: answers.extend(map(shell.execute, lines))), 1)
        self.assertEqual(answers, ["error Busy", "error Busy", "2,3 / 2,4,3", "unknown command"])


class DrawnBatchTest(PartyCase):
    def test_drawn_batches(self):
        draw = Draw(2024)
        for hall in [S, H, *mixed_halls(6, 6, 4, 3)]:
            party, model = Party(hall), Model(hall)
            for _ in range(25):
                batch = [draw.edit(party.hall, 6) for _ in range(draw.below(7))]
                twin = Model(hall)
                for name, value in model.done:
                    twin.edit(name, value)
                wrong = None
                for index, (name, value) in enumerate(batch):
                    if wrong is None and twin.error(name, value) is not None:
                        wrong = index
                    elif wrong is None:
                        twin.edit(name, value)
                if wrong is None:
                    self.assertEqual(party.attempt(batch), len(batch))
                    model = twin
                else:
                    self.check_refused(party, "Rejected", [wrong], party.attempt, batch)
                self.check_versions(party, model)
                while len(model.done) > 30:
                    self.assertEqual(party.undo(), model.undo())


if __name__ == "__main__":
    unittest.main()
