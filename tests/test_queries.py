import inspect
import unittest

from models import Draw, Model, PartyCase, other_values, seen, walked, wrong_numbers
from samples import H, LARGEST, S, T, any_values, large_halls, mixed_halls, small_halls
from shoeparty import errors
from shoeparty.numbers import sure_certificate, sure_certificate_holds
from shoeparty.parties import Party
from shoeparty.runs import small_run
from shoeparty.texts import hall_text, parse_hall

LIMIT = 1000
NAMES = ["state", "certificate", "walk"]


def drawn_parties():
    """Parties with drawn edits and undos, and their models."""
    draw = Draw(11)
    for hall in [S, T, H, ((7,), ()), *mixed_halls(4, 9, 4, 4), *mixed_halls(2, LARGEST, 18, 18)]:
        party, model = Party(hall), Model(hall)
        for _ in range(25):
            name, value = draw.edit(model.hall(), 9)
            if draw.below(4) == 0 and model.done:
                party.undo()
                model.undo()
            elif model.error(name, value) is None:
                getattr(party, name)(value)
                model.edit(name, value)
        yield party, model


def ask(party, name, **named):
    if name == "state":
        return party.state(**named)
    if name == "certificate":
        return party.certificate(1, **named)
    return list(party.walk(**named))


class VersionTest(PartyCase):
    def test_now_and_at_each_version(self):
        for party, model in drawn_parties():
            before = seen(party)
            for named in [{}, {"version": None}]:
                self.check_answers(party, model.hall(), named)
            for version, hall in enumerate(model.halls):
                self.check_answers(party, hall, {"version": version})
            self.assertEqual(seen(party), before)

    def check_answers(self, party, hall, named):
        self.assertEqual(repr(party.state(**named)), repr(hall))
        self.assertEqual(repr(list(party.walk(**named))), repr(walked(hall)))
        for number in [0, 1, 2, len(hall[0]), len(hall[0]) + 1, LIMIT]:
            self.assertEqual(repr(party.certificate(number, **named)), repr(sure_certificate(hall, number)))
            self.assertTrue(sure_certificate_holds(hall, number, party.certificate(number, **named)))

    def test_no_version(self):
        for many in [0, 1, 3, 60]:
            party = Party(S)
            for _ in range(many):
                party.put(4) if len(party) % 2 == 0 else party.take(0)
            for name in NAMES:
                for value in wrong_numbers(many):
                    if value is not None:
                        with self.subTest(name=name, many=many, value=value):
                            self.check_refused(party, "NoVersion", [value], ask, party, name, version=value)

    def test_versions_are_those_of_the_edits_that_stand(self):
        party = Party(S)
        party.put(5)
        party.put(6)
        self.assertEqual(party.state(version=2), ((2, 3), (2, 4, 5, 6)))
        party.undo()
        for name in NAMES:
            self.check_refused(party, "NoVersion", [2], ask, party, name, version=2)
        party.take(0)
        self.assertEqual([party.state(version=version) for version in range(3)], [S, (S[0], (2, 4, 5)), (S[0], (4, 5))])
        party.undo()
        party.undo()
        party.come(9)
        self.assertEqual([party.state(version=version) for version in range(2)], [S, ((2, 3, 9), (2, 4))])
        self.check_refused(party, "NoVersion", [2], party.state, version=2)

    def test_an_edit_that_raised_an_error_makes_no_version(self):
        party = Party(S)
        self.assertRaises(errors.BadSize, party.put, 0)
        self.assertRaises(errors.Rejected, party.attempt, [("put", 5), ("put", 0)])
        self.check_refused(party, "NoVersion", [1], party.state, version=1)
        self.assertEqual(party.state(version=0), S)

    def test_version_is_passed_by_keyword(self):
        party = Party(S)
        self.assertRaises(TypeError, party.state, 0)
        self.assertRaises(TypeError, party.certificate, 1, 0)
        self.assertRaises(TypeError, party.walk, 0)


class CertificateTest(PartyCase):
    def test_numbers_of_the_party(self):
        for hall in [S, T, H, *small_halls(), *large_halls()]:
            party = Party(hall)
            for number in range(len(hall[0]) + 2):
                kind = "run" if number > party.fewest else "table"
                self.assertEqual(party.certificate(number)[0], kind)
                self.assertTrue(sure_certificate_holds(hall, number, party.certificate(number)))

    def test_limits(self):
        party = Party(S)
        self.assertEqual(party.certificate(0)[0], "table")
        self.assertEqual(party.certificate(LIMIT)[0], "run")
        for value in [-1, LIMIT + 1, LIMIT + 2, 10 ** 39, True, False, None]:
            self.check_refused(party, "BadNumber", [value], party.certificate, value)

    def test_no_numbers(self):
        party = Party(S)
        party.put(5)
        for value in wrong_numbers(LIMIT):
            with self.subTest(value=value):
                self.check_refused(party, "BadNumber", [value], party.certificate, value)
                for version in [None, 0, 1]:
                    self.check_refused(party, "BadNumber", [value], party.certificate, value, version=version)

    def test_no_version_comes_first(self):
        party = Party(S)
        party.put(5)
        for value in [1, 0, LIMIT, -1, LIMIT + 1, True, None, "1", (), [1]]:
            for version in [2, -1, True, False, "0", (), [0], 10 ** 39]:
                self.check_refused(party, "NoVersion", [version], party.certificate, value, version=version)


class WalkTest(PartyCase):
    def test_step_by_step(self):
        party = Party(((3, 2, 9, 4), (4, 2, 6, 4)))
        before = seen(party)
        steps = party.walk()
        for wanted in [(0, 4, (2, 6, 4)), (1, 2, (6, 4)), (2, 0, (6, 4)), (3, 4, (6,))]:
            self.assertEqual(repr(next(steps)), repr(wanted))
            self.assertEqual(seen(party), before)
        self.assertRaises(StopIteration, next, steps)
        self.assertEqual(seen(party), before)

    def test_of_equal_pairs_the_one_with_the_smaller_number(self):
        party = Party(((5, 5, 5), (7, 5, 9, 5)))
        self.assertEqual(list(party.walk()), [(0, 5, (7, 9, 5)), (1, 5, (7, 9)), (2, 7, (9,))])

    def test_no_pairs_and_no_pair_that_fits(self):
        self.assertEqual(list(Party(((7, 8), ())).walk()), [(0, 0, ()), (1, 0, ())])
        self.assertEqual(list(Party(((7, 8), (6, 5))).walk()), [(0, 0, (6, 5)), (1, 0, (6, 5))])
        self.assertEqual(list(Party(((1,), (LARGEST,))).walk()), [(0, LARGEST, ())])

    def test_halls(self):
        for hall in [S, T, H, *small_halls(), *large_halls()]:
            items = list(Party(hall).walk())
            self.assertEqual(repr(items), repr(walked(hall)))
            run = small_run(hall, tuple(range(len(hall[0]))))
            self.assertEqual([size for _, size, _ in items], [hall[1][pair] if pair >= 0 else 0 for _, pair in run])

    def test_two_at_once_and_one_that_is_left_off(self):
        party = Party(H)
        one, other = party.walk(), party.walk()
        self.assertEqual(next(one), next(other))
        self.assertEqual([next(one)] + list(one), list(other))
        next(party.walk())
        self.assertEqual(list(party.walk()), walked(H))

    def test_yields_one_after_another(self):
        self.assertTrue(inspect.isgenerator(Party(S).walk()))

    def test_beside_other_queries(self):
        party = Party(H)
        party.put(50)
        items = []
        for item in party.walk(version=0):
            items.append(item)
            self.assertEqual(party.state(), (H[0], H[1] + (50,)))
            self.assertEqual(list(party.walk()), walked(party.hall))
        self.assertEqual(items, walked(H))


class EditsTest(PartyCase):
    def test_names_and_values(self):
        party = Party(S)
        self.assertEqual(repr(party.edits()), "()")
        party.come(9)
        party.put(7)
        party.leave(0)
        party.attempt([("take", 1), ("put", 3)])
        wanted = (("come", 9), ("put", 7), ("leave", 0), ("take", 1), ("put", 3))
        self.assertEqual(repr(party.edits()), repr(wanted))
        party.undo()
        self.assertEqual(repr(party.edits()), repr(wanted[:-1]))

    def test_an_old_result_does_not_change(self):
        party = Party(S)
        party.put(7)
        before = party.edits()
        party.put(8)
        party.undo()
        party.undo()
        self.assertEqual((before, party.edits()), ((("put", 7),), ()))

    def test_the_same_edits_again(self):
        for party, model in drawn_parties():
            other = Party(model.halls[0])
            for name, value in party.edits():
                getattr(other, name)(value)
            self.assertEqual(seen(other), seen(party))
            batch = Party(model.halls[0])
            self.assertEqual(batch.attempt(party.edits()[:20]), min(20, len(party)))
            self.assertEqual(batch.hall, party.state(version=len(batch)))


class ReadTest(PartyCase):
    def test_texts_of_halls(self):
        for hall in [S, T, H, ((7,), ()), *small_halls(), *large_halls()]:
            party = Party.read(hall_text(hall))
            self.assertIs(type(party), Party)
            self.assertEqual(seen(party), seen(Party(hall)))

    def test_a_new_party_without_edits(self):
        party = Party.read("2,3 / 2,4")
        self.assertEqual((party.hall, len(party), party.edits()), (S, 0, ()))
        self.check_refused(party, "NothingToUndo", [], party.undo)
        self.assertEqual([party.put(9), party.hall], [1, (S[0], (2, 4, 9))])

    def test_called_on_a_party_it_returns_another_one(self):
        party = Party(S)
        party.put(9)
        other = party.read("7 / -")
        self.assertEqual((other.hall, other.edits()), (((7,), ()), ()))
        self.assertEqual((party.hall, len(party)), ((S[0], (2, 4, 9)), 1))
        self.assertIsNot(party.read(hall_text(party.hall)), party)

    def test_wrong_texts(self):
        for text, index in [
            ("2,3 / 2,0", 2), ("", 0), ("2,3", 1), ("2,3 /", 2), ("2,3 / 2,4 ", 3), ("2,3 / 2,4 x", 3), ("0 / 1", 0),
            ("2,3  / 2,4", 1), ("- / 1", 0), ("1 - 1", 1), ("1 / 1,", 2), ("01 / 1", 0), ("1 / 1000001", 2),
            ("1 / 1\n", 2),
        ]:
            self.check_raises("BadText", [index], Party.read, text)

    def test_any_values(self):
        words = ["", "-", "/", "0", "1", "1,1", "+1", "2,3", "x"]
        lines = [" ".join([one, two, three]) for one in words for two in words for three in words]
        for value in [*any_values(), *other_values(), *lines]:
            try:
                hall = parse_hall(value)
            except errors.BadText as error:
                self.check_raises("BadText", [error.index], Party.read, value)
            else:
                self.assertEqual(seen(Party.read(value)), seen(Party(hall)))

    def test_no_texts(self):
        for value in [None, 7, True, ("7", "/", "-"), ["7 / -"], {"7 / -": 1}, Party(S), b"7 / -"]:
            self.check_raises("BadText", [None], Party.read, value)


if __name__ == "__main__":
    unittest.main()
