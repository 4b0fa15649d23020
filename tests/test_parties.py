import unittest

from models import NAMES, Draw, Model, PartyCase, other_values, seen, wrong_numbers, wrong_sizes
from samples import H, LARGEST, S, T, any_values, large_halls, mixed_halls, small_halls, with_parts_replaced
from shoeparty import bounds, errors
from shoeparty.halls import hall_error
from shoeparty.parties import Party

STAND_INS = [None, True, False, -1, 0, LARGEST + 1, 10 ** 39, "", "1", "2,3 / 2,4", (), (1,), [1], {}, {"1": 1}]
TWENTY = (5,) * 20


def full_of_edits(hall=S):
    """A party with 60 edits, and its model."""
    party, model = Party(hall), Model(hall)
    for at in range(30):
        for name, value in [("put", at + 1), ("take", 0)]:
            getattr(party, name)(value)
            model.edit(name, value)
    return party, model


class MadeTest(PartyCase):
    def test_halls(self):
        for hall in [S, T, H, ((7,), ()), ((LARGEST,), (LARGEST,)), (TWENTY, TWENTY), (TWENTY, ()), *large_halls()]:
            self.check_versions(Party(hall), Model(hall))
        for hall in small_halls():
            self.check(Party(hall), Model(hall))

    def test_a_new_party_has_no_edits(self):
        party = Party(S)
        self.assertEqual((len(party), party.edits(), party.state(version=0)), (0, (), S))

    def refuse(self, value):
        with self.subTest(value=value), self.assertRaises(errors.BadHall) as caught:
            Party(value)
        self.check_error(caught.exception, "BadHall", vars(caught.exception).values())
        self.assertEqual(repr(caught.exception.error), repr(hall_error(value)))
        return caught.exception.error

    def test_no_halls(self):
        wrong = [(((), ()), (None, "feet")), (((2, 3), (2, 0)), (1, "pair")), (((2,), None), (None, "pairs"))]
        wrong += [(((2, True), (2,)), (1, "foot")), ([(2,), (2,)], (None, "hall")), (((2,),), (None, "hall"))]
        wrong += [(((1,) * 21, ()), (None, "feet")), (((1,), (1,) * 21), (None, "pairs")), (None, (None, "hall"))]
        wrong += [("2,3 / 2,4", (None, "hall")), (((0,), (0,)), (0, "foot")), (((1, LARGEST + 1), ()), (1, "foot"))]
        for value, error in wrong:
            self.assertEqual(self.refuse(value), error)

    def test_any_values(self):
        for value in [*any_values(), *other_values(), *with_parts_replaced(((2, 3), (4,)), STAND_INS)]:
            if hall_error(value) is None:
                self.check(Party(value), Model(value))
            else:
                self.refuse(value)

    def test_most_edits(self):
        self.assertEqual(repr([Party.MOST_EDITS, Party(S).MOST_EDITS, bounds.MAX_EDITS]), "[60, 60, 60]")
        self.assertIn("MOST_EDITS", vars(Party))

    def test_attributes_are_set_when_the_party_is_created(self):
        self.assertLessEqual({"hall", "most", "fewest"}, set(vars(Party(S))))

    def test_text_has_always_the_same_words(self):
        self.assertEqual(str(Party(((7,), ()))), "1 guests, 0 pairs, served 0 to 0, 0 edits")
        self.assertEqual(str(Party(S)), "2 guests, 2 pairs, served 1 to 2, 0 edits")
        self.assertEqual(str(Party(H)), "5 guests, 5 pairs, served 2 to 4, 0 edits")
        party = Party(((7,), ()))
        party.put(7)
        self.assertEqual(str(party), "1 guests, 1 pairs, served 1 to 1, 1 edits")
        party.put(7)
        self.assertEqual(str(party), "1 guests, 2 pairs, served 1 to 1, 2 edits")
        party.undo()
        self.assertEqual(str(party), "1 guests, 1 pairs, served 1 to 1, 1 edits")


class EditTest(PartyCase):
    def test_come_and_put_add_at_the_end(self):
        party = Party(S)
        self.assertEqual(repr([party.come(1), party.hall]), repr([1, ((2, 3, 1), (2, 4))]))
        self.assertEqual(repr([party.put(9), party.hall]), repr([2, ((2, 3, 1), (2, 4, 9))]))
        self.assertEqual(repr([party.come(LARGEST), party.hall]), repr([3, ((2, 3, 1, LARGEST), (2, 4, 9))]))
        self.assertEqual(repr([party.put(1), party.hall]), repr([4, ((2, 3, 1, LARGEST), (2, 4, 9, 1))]))
        self.assertEqual(repr([party.put(LARGEST), party.come(1)]), repr([5, 6]))

    def test_leave_and_take_remove_each_number(self):
        for guest in range(5):
            party, model = Party(H), Model(H)
            self.follow(party, model, "leave", guest)
            self.assertEqual(party.hall, (H[0][:guest] + H[0][guest + 1:], H[1]))
        for pair in range(5):
            party, model = Party(H), Model(H)
            self.follow(party, model, "take", pair)
            self.assertEqual(party.hall, (H[0], H[1][:pair] + H[1][pair + 1:]))

    def test_drawn_edits(self):
        draw = Draw(99)
        for hall in [S, T, H, ((7,), ()), *mixed_halls(3, 9, 4, 4), *mixed_halls(2, 9, 19, 19)]:
            party, model = Party(hall), Model(hall)
            for _ in range(70):
                name, value = draw.edit(party.hall, 9)
                self.follow(party, model, name, value)
            self.check_versions(party, model)

    def test_twenty_guests(self):
        party, model = Party((TWENTY[:19], (5,))), Model((TWENTY[:19], (5,)))
        edits = [("come", 1), ("come", 2), ("come", 0), ("leave", 19), ("come", 9), ("leave", 20), ("come", 1)]
        for name, value in edits:
            self.follow(party, model, name, value)
        self.assertEqual((party.hall[0], len(party)), (TWENTY[:19] + (9,), 3))

    def test_twenty_pairs(self):
        party, model = Party(((5,), TWENTY[:19])), Model(((5,), TWENTY[:19]))
        for name, value in [("put", 1), ("put", 2), ("put", 0), ("take", 19), ("put", 9), ("take", 20), ("put", 1)]:
            self.follow(party, model, name, value)
        self.assertEqual((party.hall[1], len(party)), (TWENTY[:19] + (9,), 3))

    def test_the_only_guest_stays(self):
        party, model = Party(((7,), (8,))), Model(((7,), (8,)))
        for name, value in [("leave", 0), ("leave", 1), ("come", 9), ("leave", 0), ("leave", 0), ("leave", False)]:
            self.follow(party, model, name, value)
        self.assertEqual(party.hall, ((9,), (8,)))

    def test_the_last_pair_and_no_pairs(self):
        party, model = Party(((7,), (8,))), Model(((7,), (8,)))
        for name, value in [("take", 0), ("take", 0), ("take", -1), ("put", 7), ("take", 0), ("take", None)]:
            self.follow(party, model, name, value)
        self.assertEqual(party.hall, ((7,), ()))

    def test_an_old_hall_does_not_change(self):
        hall = (tuple([2, 3]), tuple([2, 4]))
        party = Party(hall)
        before = party.hall
        party.come(9)
        self.assertEqual((hall, before, party.hall), (S, S, ((2, 3, 9), (2, 4))))

    def test_two_parties_of_one_hall(self):
        one, other = Party(S), Party(S)
        one.come(9)
        other.take(0)
        self.assertEqual((one.hall, other.hall), (((2, 3, 9), (2, 4)), ((2, 3), (4,))))
        self.assertEqual((one.edits(), other.edits()), ((("come", 9),), (("take", 0),)))


class WrongEditTest(PartyCase):
    def test_the_errors_by_name(self):
        party = Party(S)
        for name, value, error in [
            ("come", 0, "BadFoot"), ("come", "1", "BadFoot"), ("put", 0, "BadSize"), ("put", True, "BadSize"),
            ("leave", 2, "NoGuest"), ("leave", True, "NoGuest"), ("leave", -1, "NoGuest"),
            ("take", 2, "NoPair"), ("take", False, "NoPair"), ("take", -1, "NoPair"),
        ]:
            self.check_refused(party, error, [value], getattr(party, name), value)
        for party, name, value, error in [
            (Party((TWENTY, ())), "come", 5, "TooManyGuests"), (Party(((5,), TWENTY)), "put", 5, "TooManyPairs"),
            (Party(((5,), ())), "leave", 0, "LastGuest"),
        ]:
            self.check_refused(party, error, [], getattr(party, name), value)

    def test_any_values(self):
        for hall in [S, ((7,), ()), (TWENTY, TWENTY)]:
            for name in NAMES:
                party, model = Party(hall), Model(hall)
                wrong = wrong_sizes() if name in ("come", "put") else wrong_numbers(len(hall[name == "take"]) - 1)
                for value in wrong:
                    with self.subTest(hall=hall, name=name, value=value):
                        self.assertIsNotNone(model.error(name, value))
                        self.follow(party, model, name, value)
                self.assertEqual(len(party), 0)

    def test_a_wrong_value_comes_before_a_full_hall(self):
        party = Party((TWENTY, TWENTY))
        self.check_refused(party, "BadFoot", [0], party.come, 0)
        self.check_refused(party, "BadSize", [0], party.put, 0)
        self.check_refused(party, "TooManyGuests", [], party.come, LARGEST)
        self.check_refused(party, "TooManyPairs", [], party.put, LARGEST)
        party = Party(((7,), ()))
        self.check_refused(party, "NoGuest", [1], party.leave, 1)
        self.check_refused(party, "LastGuest", [], party.leave, 0)

    def test_60_edits_that_stand(self):
        party, model = full_of_edits()
        self.check_versions(party, model)
        self.assertEqual(len(party), 60)
        for name in NAMES:
            for value in [1, 0, 9, -1, True, None, "1", (), [], 10 ** 39]:
                self.check_refused(party, "TooManyEdits", [], getattr(party, name), value)
        for _ in range(2):
            self.assertEqual(party.undo(), model.undo())
            self.follow(party, model, "come", 3)
            self.check_refused(party, "TooManyEdits", [], party.come, 3)
        self.check_versions(party, model)

    def test_too_many_edits_come_before_all_other_errors(self):
        for hall in [(TWENTY, TWENTY[:19]), ((5,), ())]:
            party, _ = full_of_edits(hall)
            for name in NAMES:
                for value in [5, 0, 20, None]:
                    self.check_refused(party, "TooManyEdits", [], getattr(party, name), value)

    def test_59_edits_that_stand(self):
        for name, value in [("come", 1), ("leave", 0), ("put", 1), ("take", 0)]:
            party, model = full_of_edits()
            party.undo()
            model.undo()
            self.follow(party, model, name, 0 if name in ("come", "put") else 9)
            self.follow(party, model, name, value)
            self.assertEqual(len(party), 60)
            self.follow(party, model, name, value)

    def test_edits_that_were_undone_do_not_count(self):
        party, model = Party(S), Model(S)
        for _ in range(100):
            self.follow(party, model, "put", 5)
            self.assertEqual(party.undo(), model.undo())
        self.check_versions(party, model)


class UndoTest(PartyCase):
    def test_down_to_the_beginning(self):
        party, model = full_of_edits()
        for left in range(59, -1, -1):
            self.assertEqual(repr(party.undo()), repr(left))
            model.undo()
            self.check(party, model)
        self.assertEqual(seen(party), seen(Party(S)))
        self.check_refused(party, "NothingToUndo", [], party.undo)

    def test_nothing_to_undo(self):
        for hall in [S, ((7,), ())]:
            party = Party(hall)
            for _ in range(2):
                self.check_refused(party, "NothingToUndo", [], party.undo)
            self.assertEqual(party.put(3), 1)
            self.assertEqual(party.undo(), 0)
            self.check_refused(party, "NothingToUndo", [], party.undo)

    def test_a_guest_who_left_is_back_at_the_old_place(self):
        party = Party(((2, 3, 4), (5, 6, 7)))
        party.leave(1)
        party.take(0)
        self.assertEqual(party.hall, ((2, 4), (6, 7)))
        self.assertEqual([party.undo(), party.hall], [1, ((2, 4), (5, 6, 7))])
        self.assertEqual([party.undo(), party.hall], [0, ((2, 3, 4), (5, 6, 7))])

    def test_an_edit_that_raised_an_error_is_not_undone(self):
        party, model = Party(S), Model(S)
        self.follow(party, model, "put", 9)
        self.follow(party, model, "put", 0)
        self.follow(party, model, "leave", 5)
        self.assertEqual((party.undo(), party.hall), (0, S))

    def test_other_edits_afterwards(self):
        draw = Draw(5)
        for hall in [S, T, H, *mixed_halls(3, 6, 3, 2)]:
            party, model = Party(hall), Model(hall)
            for _ in range(150):
                if draw.below(5) < 2 and model.done:
                    self.assertEqual(repr(party.undo()), repr(model.undo()))
                    self.check_versions(party, model)
                else:
                    name, value = draw.edit(party.hall, 6)
                    self.follow(party, model, name, value)
            self.check_versions(party, model)


if __name__ == "__main__":
    unittest.main()
