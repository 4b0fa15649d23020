"""The guarantees of point [2] over the whole program, with drawn halls and drawn edits."""

import unittest
from itertools import permutations

from models import Draw, Model, PartyCase
from samples import (
    H, LARGEST, S, T, all_runs, counts, large_halls, least_numbers, mixed_halls, served_number, small_halls,
    telling_sizes,
)
from shoeparty.counting import count_served, each_run
from shoeparty.more import fewest_larger, fewest_more, run_leaving, run_with, run_without
from shoeparty.numbers import (
    fewest_served, most_served, possible_certificate, possible_certificate_holds, sure_certificate,
    sure_certificate_holds,
)
from shoeparty.parties import Party
from shoeparty.runs import is_run, large_run, served_by, small_run
from shoeparty.shells import Shell


def drawn_halls():
    for guests, pairs in [(1, 0), (1, 3), (2, 2), (3, 3), (4, 3), (3, 4), (5, 5), (6, 6), (12, 9), (19, 19)]:
        for top in [3, 8, LARGEST]:
            yield from mixed_halls(2, top, guests, pairs)


def both(party):
    return party.most, party.fewest


class NumbersTest(unittest.TestCase):
    """Points (a), (b), (c) and (e)."""

    def test_each_run_serves_between_the_two_numbers_and_each_number_between_is_served(self):
        for hall in [S, T, *list(small_halls())[::5], *mixed_halls(5, 4, 4, 4)]:
            served = {len(served_by(hall, run)) for run in each_run(hall)}
            self.assertEqual(sorted(served), list(range(fewest_served(hall), most_served(hall) + 1)))
            self.assertEqual(served, {served_number(run) for run in all_runs(hall)})
            for number in range(len(hall[0]) + 2):
                self.assertEqual(run_with(hall, number) is not None, number in served)

    def test_each_number_between_is_that_of_a_run_in_large_halls_too(self):
        for hall in [H, *drawn_halls(), *large_halls()]:
            for number in range(len(hall[0]) + 2):
                run = run_with(hall, number)
                if fewest_served(hall) <= number <= most_served(hall):
                    self.assertTrue(is_run(hall, run))
                    self.assertEqual(len(served_by(hall, run)), number)
                else:
                    self.assertIsNone(run)

    def test_exactly_one_kind_of_certificate_for_each_number(self):
        for hall in [S, T, H, *drawn_halls(), *large_halls()]:
            party = Party(hall)
            for number in [*range(len(hall[0]) + 2), 1000]:
                sure, possible = sure_certificate(hall, number), possible_certificate(hall, number)
                self.assertTrue(sure_certificate_holds(hall, number, sure))
                self.assertTrue(possible_certificate_holds(hall, number, possible))
                self.assertEqual(sure[0], "table" if number <= fewest_served(hall) else "run")
                self.assertEqual(possible[0], "run" if number <= most_served(hall) else "size")
                self.assertEqual(party.certificate(number), sure)

    def test_no_certificate_of_the_other_kind_holds(self):
        for hall in [S, T, *list(small_halls())[::3], *mixed_halls(3, 4, 3, 4)]:
            runs = list(each_run(hall))
            for number in range(len(hall[0]) + 2):
                kinds = [sure_certificate(hall, number)[0], possible_certificate(hall, number)[0]]
                few = [run for run in runs if sure_certificate_holds(hall, number, ("run", run))]
                enough = [run for run in runs if possible_certificate_holds(hall, number, ("run", run))]
                sizes = telling_sizes(hall)
                sizes = [size for size in sizes if possible_certificate_holds(hall, number, ("size", size))]
                self.assertEqual(kinds, ["run" if few else "table", "run" if enough else "size"])
                self.assertEqual(bool(sizes), not enough)
                self.assertEqual(len(few) + len(enough), len(runs))

    def test_who_takes_the_smallest_or_the_largest_pair(self):
        for hall in [S, T, *list(small_halls())[::3], *mixed_halls(6, 5, 4, 4)]:
            for order in permutations(range(len(hall[0]))):
                self.assertEqual(len(served_by(hall, small_run(hall, order))), most_served(hall))
                if list(order) == sorted(order, key=lambda guest: hall[0][guest]):
                    self.assertEqual(len(served_by(hall, large_run(hall, order))), fewest_served(hall))
        draw = Draw(6)
        for hall in [H, *drawn_halls(), *large_halls()]:
            order = draw.shuffled(range(len(hall[0])))
            self.assertEqual(len(served_by(hall, small_run(hall, order))), most_served(hall))
            order = tuple(sorted(order, key=lambda guest: hall[0][guest]))
            self.assertEqual(len(served_by(hall, large_run(hall, order))), fewest_served(hall))


class ChangedHallTest(unittest.TestCase):
    """Point (d), and what does not change anything."""

    def check_more(self, less, more):
        for action in [most_served, fewest_served]:
            self.assertIn(action(more) - action(less), (0, 1), (less, more))

    def test_one_more_or_less(self):
        draw = Draw(17)
        for feet, pairs in [S, T, H, *drawn_halls(), *large_halls()]:
            for size in [1, 2, 5, LARGEST, draw.one_of(feet), draw.one_of(feet + pairs), 1 + draw.below(LARGEST)]:
                if len(feet) < 20:
                    self.check_more((feet, pairs), (feet + (size,), pairs))
                if len(pairs) < 20:
                    self.check_more((feet, pairs), (feet, pairs + (size,)))
            for at in range(len(feet)):
                if len(feet) > 1:
                    self.check_more((feet[:at] + feet[at + 1:], pairs), (feet, pairs))
            for at in range(len(pairs)):
                self.check_more((feet, pairs[:at] + pairs[at + 1:]), (feet, pairs))

    def test_a_larger_pair_in_the_place_of_one(self):
        draw = Draw(18)
        for feet, pairs in [S, T, H, *drawn_halls()]:
            for at, size in enumerate(pairs):
                for larger in [min(LARGEST, size + 1), min(LARGEST, size + 1 + draw.below(5)), LARGEST]:
                    self.check_more((feet, pairs), (feet, pairs[:at] + (larger,) + pairs[at + 1:]))

    def told(self, hall):
        numbers = range(len(hall[0]) + 2)
        found = [most_served(hall), fewest_served(hall), str(Party(hall))]
        found += [[sure_certificate(hall, number)[0], possible_certificate(hall, number)[0]] for number in numbers]
        found += [[fewest_more(hall, number), fewest_larger(hall, number)] for number in numbers]
        found += [run_with(hall, number) is None for number in numbers]
        return found + [count_served(hall) if max(len(hall[0]), len(hall[1])) <= 6 else None]

    def each(self, hall):
        without = [run_without(hall, guest) is None for guest in range(len(hall[0]))]
        return without + [run_leaving(hall, pair) is None for pair in range(len(hall[1]))]

    def test_another_order(self):
        draw = Draw(19)
        for feet, pairs in [S, T, H, *drawn_halls()]:
            first, second = draw.shuffled(range(len(feet))), draw.shuffled(range(len(pairs)))
            other = tuple(feet[guest] for guest in first), tuple(pairs[pair] for pair in second)
            self.assertEqual(self.told(other), self.told((feet, pairs)))
            one = self.each((feet, pairs))
            without, leaving = one[:len(feet)], one[len(feet):]
            moved = [without[guest] for guest in first] + [leaving[pair] for pair in second]
            self.assertEqual(self.each(other), moved)
            self.assertEqual(Party(other), Party((feet, pairs)))

    def test_all_sizes_moved_alike(self):
        for feet, pairs in [S, T, H, *drawn_halls()]:
            room = LARGEST - max(feet + pairs)
            for step in [1, 7, room, 1 - min(feet + pairs)]:
                if step <= room:
                    other = tuple(foot + step for foot in feet), tuple(pair + step for pair in pairs)
                    self.assertEqual(self.told(other), self.told((feet, pairs)))
                    self.assertEqual(self.each(other), self.each((feet, pairs)))

    def test_two_halls_in_one(self):
        halls = [S, T, H, *mixed_halls(4, 6, 5, 5), *mixed_halls(4, 9, 10, 10), *mixed_halls(3, 4, 3, 8)]
        for one in halls:
            for other in halls:
                hall = one[0] + other[0], one[1] + other[1]
                self.assertGreaterEqual(most_served(hall), most_served(one) + most_served(other))
                self.assertGreaterEqual(fewest_served(hall), max(fewest_served(one), fewest_served(other)))
                for action in [most_served, fewest_served]:
                    self.assertLessEqual(action(hall), action(one) + len(other[0]) + len(other[1]))
            twice = one[0] * 2, one[1] * 2
            self.assertEqual((most_served(twice), fewest_served(twice)), (2 * most_served(one), 2 * fewest_served(one)))

    def test_both_numbers_by_the_words_of_the_document(self):
        for hall in [S, T, H, *drawn_halls(), *large_halls()]:
            self.assertEqual((most_served(hall), fewest_served(hall)), least_numbers(hall))
            least = [max(counts(hall, size)) for size in telling_sizes(hall)]
            self.assertEqual(fewest_served(hall), min(least))


class EditedPartyTest(PartyCase):
    """Points (d) and (f)."""

    def drawn(self, start, edits=30):
        draw = Draw(start)
        for hall in [S, T, H, *list(drawn_halls())[::2]]:
            party, model = Party(hall), Model(hall)
            for _ in range(edits):
                before = both(party)
                name, value = draw.edit(model.hall(), 9)
                if draw.below(4) == 0 and model.done:
                    name = "undo"
                    model.undo()
                    party.undo()
                elif model.error(name, value) is None:
                    model.edit(name, value)
                    getattr(party, name)(value)
                else:
                    name = "none"
                yield party, model, name, before

    def test_each_edit_changes_both_numbers_by_at_most_one(self):
        for party, _, name, before in self.drawn(41):
            steps = [now - then for now, then in zip(both(party), before)]
            allowed = {"come": (0, 1), "put": (0, 1), "leave": (-1, 0), "take": (-1, 0), "none": (0,)}
            for step in steps:
                self.assertIn(step, allowed.get(name, (-1, 0, 1)))

    def told(self, party):
        numbers = [*range(len(party.hall[0]) + 2), 1000]
        found = [party.hall, party.most, party.fewest, party.state(), list(party.walk())]
        found += [party.certificate(number) for number in numbers]
        shell = Shell(party)
        lines = ["party", "most", "fewest", *[f"sure {number}" for number in numbers]]
        return repr(found + [shell.execute(line) for line in lines + [f"without {guest}" for guest in numbers]])

    def test_a_party_is_like_a_new_one_with_the_same_hall(self):
        for party, model, _, _ in self.drawn(42):
            new = Party(model.hall())
            self.assertEqual(self.told(party), self.told(new))
            self.assertIs(party == new, True)

    def test_certificates_at_each_version(self):
        for at, (party, model, _, _) in enumerate(self.drawn(43)):
            if at % 10 == 9:
                for version, hall in enumerate(model.halls):
                    for number in range(len(hall[0]) + 2):
                        value = party.certificate(number, version=version)
                        self.assertTrue(sure_certificate_holds(hall, number, value))
                        self.assertEqual(value[0], "run" if least_numbers(hall)[1] < number else "table")

    def test_runs_between_the_two_numbers_of_a_party(self):
        for party, model, _, _ in self.drawn(44, 15):
            hall = model.hall()
            order = tuple(range(len(hall[0])))
            self.assertEqual(len([size for _, size, _ in party.walk() if size]), party.most)
            self.assertEqual(len(served_by(hall, small_run(hall, order))), party.most)
            for number in range(len(order) + 2):
                self.assertEqual(run_with(hall, number) is not None, party.fewest <= number <= party.most)


if __name__ == "__main__":
    unittest.main()
