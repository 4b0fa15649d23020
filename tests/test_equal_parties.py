import unittest
from itertools import permutations, product

from models import Draw, PartyCase, other_values, seen
from samples import H, S, T, any_values, large_halls, mixed_halls
from shoeparty.parties import Party, PledgedParty
from shoeparty.pledges import Pledge


class EqualTest(PartyCase):
    def check_equal(self, one, other, equal):
        before = seen(one)
        self.assertIs(one == other, equal)
        self.assertIs(other == one, equal)
        self.assertIs(one != other, not equal)
        self.assertIs(other != one, not equal)
        self.assertEqual(seen(one), before)

    def test_guests_and_pairs_in_another_order(self):
        for feet in permutations((2, 3, 3)):
            for pairs in permutations((1, 4, 4)):
                self.check_equal(Party((feet, pairs)), Party(((3, 2, 3), (4, 4, 1))), True)
                self.check_equal(PledgedParty((feet, pairs), 1), PledgedParty(((3, 2, 3), (4, 4, 1)), 1), True)
        draw = Draw(4)
        for feet, pairs in large_halls():
            self.check_equal(Party((feet, pairs)), Party((draw.shuffled(feet), draw.shuffled(pairs))), True)

    def test_each_two_of_many_halls(self):
        halls = list(product([(2,), (3,), (2, 3), (3, 2), (2, 2), (3, 3)], [(), (2,), (3,), (2, 3), (3, 2), (2, 2)]))
        for one in halls:
            for other in halls:
                equal = sorted(one[0]) == sorted(other[0]) and sorted(one[1]) == sorted(other[1])
                self.check_equal(Party(one), Party(other), equal)
                self.check_equal(PledgedParty(one, 0), PledgedParty(other, 0), equal)
                self.check_equal(Party(one), PledgedParty(other, 0), False)

    def test_feet_and_pairs_are_not_mixed_up(self):
        self.check_equal(Party(((2,), (3,))), Party(((3,), (2,))), False)
        self.check_equal(Party(((2, 3), (4,))), Party(((2,), (3, 4))), False)
        self.check_equal(Party(((2, 2, 3), ())), Party(((2, 3, 3), ())), False)

    def test_a_party_and_itself(self):
        for party in [Party(S), Party(((7,), ())), PledgedParty(S, 1)]:
            self.check_equal(party, party, True)

    def test_after_edits(self):
        party, other = Party(S), Party(S)
        party.put(5)
        self.check_equal(party, other, False)
        party.take(2)
        self.check_equal(party, other, True)
        party.undo()
        other.put(5)
        self.check_equal(party, other, True)
        other.leave(0)
        self.check_equal(party, other, False)
        party.leave(0)
        self.check_equal(party, other, True)
        self.check_equal(party, Party(((3,), (5, 4, 2))), True)
        other.undo()
        party.come(2)
        self.check_equal(party, other, True)
        self.assertNotEqual(party.hall, other.hall)

    def test_drawn_edits(self):
        draw = Draw(8)
        for hall in [S, T, H, *mixed_halls(3, 5, 4, 4)]:
            party = Party(hall)
            for _ in range(30):
                name, value = draw.edit(party.hall, 5)
                if party.hall[1] or name != "take":
                    if len(party.hall[0]) > 1 or name != "leave":
                        getattr(party, name)(value)
                feet, pairs = party.hall
                self.check_equal(party, Party((draw.shuffled(feet), draw.shuffled(pairs))), True)
                self.check_equal(party, Party((feet + (6,), pairs)), False)
                self.check_equal(party, Party((feet, pairs + (6,))), False)
                self.check_equal(party, PledgedParty(party.hall, 0), False)

    def test_pledges(self):
        for one in range(3):
            for other in range(3):
                hall = ((2, 3), (3, 4))
                self.check_equal(PledgedParty(hall, one), PledgedParty(hall, other), one == other)
                self.check_equal(PledgedParty(hall, one), PledgedParty(((3, 2), (4, 3)), other), one == other)
                self.check_equal(PledgedParty(hall, one), PledgedParty(((3, 2), (4, 4)), other), False)
            self.check_equal(PledgedParty(hall, one), Party(hall), False)
            self.check_equal(PledgedParty(hall, one), Pledge(one), False)

    def test_parties_with_the_same_pledge_after_edits(self):
        one, other = PledgedParty(S, 1), PledgedParty(S, 1)
        one.put(9)
        self.check_equal(one, other, False)
        other.put(9)
        self.check_equal(one, other, True)
        one.take(0)
        other.take(0)
        one.undo()
        self.check_equal(one, other, False)

    def test_other_values(self):
        for party in [Party(S), PledgedParty(S, 1)]:
            wrong = [S, list(S), str(party), "2,3 / 2,4", len(party), party.hall, Party, PledgedParty]
            for value in [*any_values(), *wrong, *other_values()]:
                if not isinstance(value, Party):
                    with self.subTest(value=value):
                        self.check_equal(party, value, False)

    def test_while_a_watch_runs(self):
        party = Party(S)
        told = []

        def watch(one):
            told.append([one == Party(S), one == Party(((3, 2), (9, 4, 2))), one != one])

        party.attempt([("put", 9)], watch=watch)
        self.assertEqual(told, [[False, True, False]])


if __name__ == "__main__":
    unittest.main()
