import unittest

from models import Draw, Model, PartyCase, other_values, seen
from samples import H, LARGEST, S, T, any_values, mixed_halls, small_halls
from shoeparty import errors
from shoeparty.more import run_without
from shoeparty.numbers import sure_certificate
from shoeparty.parties import Party, PledgedParty
from shoeparty.shells import Shell
from shoeparty.texts import hall_text

PLAIN = ["undo", "party", "most", "fewest"]
NUMBERED = ["come", "leave", "put", "take", "sure", "without"]
UNKNOWN = "unknown command"
TWENTY = (5,) * 20


class ShellCase(PartyCase):
    def answer(self, party, line, answer):
        self.assertEqual(repr(Shell(party).execute(line)), repr(answer))

    def ask(self, party, line, answer):
        """Check an answer that leaves the party as it is."""
        before = seen(party)
        with self.subTest(line=line):
            self.answer(party, line, answer)
            self.assertEqual(seen(party), before)


class EditTest(ShellCase):
    def test_each_edit(self):
        party, model = Party(S), Model(S)
        shell = Shell(party)
        for at, (name, value) in enumerate([("come", 9), ("put", 7), ("leave", 0), ("take", 1), ("come", LARGEST)]):
            self.assertEqual(shell.execute(f"{name} {value}"), f"ok {at + 1}")
            model.edit(name, value)
            self.check_versions(party, model)
        for left in [4, 3, 2, 1, 0]:
            self.assertEqual(shell.execute("undo"), f"ok {left}")
            model.undo()
            self.check_versions(party, model)
        self.ask(party, "undo", "error NothingToUndo")

    def test_two_digits_in_the_version(self):
        party = Party(S)
        for at in range(30):
            self.answer(party, "put 7", f"ok {2 * at + 1}")
            self.answer(party, "take 2", f"ok {2 * at + 2}")
        self.ask(party, "put 7", "error TooManyEdits")
        self.answer(party, "undo", "ok 59")

    def test_two_shells_on_one_party_and_calls_between(self):
        party = Party(S)
        one, other = Shell(party), Shell(party)
        told = [one.execute("put 7"), other.execute("party"), party.come(9), one.execute("party")]
        self.assertEqual(told, ["ok 1", "2,3 / 2,4,7", 2, "2,3,9 / 2,4,7"])
        self.assertEqual(other.execute("undo"), "ok 1")
        self.assertEqual([len(party), one.execute("fewest"), other.execute("undo"), party.hall], [1, "2", "ok 0", S])

    def test_a_batch_between(self):
        party = Party(S)
        shell = Shell(party)
        self.assertEqual(party.attempt([("put", 7), ("put", 8)]), 2)
        self.assertEqual([shell.execute("party"), shell.execute("undo")], ["2,3 / 2,4,7,8", "ok 1"])

    def test_shells_on_two_parties(self):
        one, other = Party(S), Party(S)
        self.answer(one, "put 7", "ok 1")
        self.assertEqual((len(one), len(other)), (1, 0))

    def test_drawn_lines(self):
        draw = Draw(31)
        for hall in [S, T, H, *mixed_halls(4, 5, 4, 4)]:
            for pledge in [None, 0, 1]:
                if pledge is None or pledge <= Party(hall).fewest:
                    party = Party(hall) if pledge is None else PledgedParty(hall, pledge)
                    self.drawn_lines(draw, party, Model(hall, pledge))

    def drawn_lines(self, draw, party, model):
        shell = Shell(party)
        for _ in range(40):
            name, value = draw.edit(model.hall(), 5)
            value += draw.below(2)
            error = model.error(name, value)
            if draw.below(5) == 0:
                name, value = "undo", None
                error = None if model.done else ("NothingToUndo", [])
            line = name if value is None else f"{name} {value}"
            if error is not None:
                self.ask(party, line, f"error {error[0]}")
            elif name == "undo":
                self.assertEqual(shell.execute(line), f"ok {model.undo()}")
            else:
                self.assertEqual(shell.execute(line), f"ok {model.edit(name, value)}")
            self.check(party, model)


class QueryTest(ShellCase):
    def test_the_party_and_its_numbers(self):
        for hall in [S, T, H, ((7,), ()), (TWENTY, TWENTY), *small_halls(), *mixed_halls(3, LARGEST)]:
            party = Party(hall)
            self.ask(party, "party", hall_text(hall))
            self.ask(party, "most", str(party.most))
            self.ask(party, "fewest", str(party.fewest))

    def test_sure(self):
        for hall in [S, T, H, ((7,), ()), *list(small_halls())[::4]]:
            party = Party(hall)
            for number in [*range(len(hall[0]) + 2), 999, 1000]:
                self.ask(party, f"sure {number}", sure_certificate(hall, number)[0])
            for number in [1001, 1002, 10000, 99999999]:
                self.ask(party, f"sure {number}", "error BadNumber")

    def test_without(self):
        for hall in [S, T, H, ((7,), ()), (TWENTY, TWENTY), *list(small_halls())[::2], *mixed_halls(2, 25)]:
            party = Party(hall)
            for guest in range(len(hall[0])):
                self.ask(party, f"without {guest}", "no" if run_without(hall, guest) is None else "yes")
            for guest in [len(hall[0]), len(hall[0]) + 1, 99999999]:
                self.ask(party, f"without {guest}", "error NoGuest")

    def test_after_edits(self):
        party = Party(S)
        self.ask(party, "sure 2", "run")
        self.ask(party, "without 1", "yes")
        self.ask(party, "without 2", "error NoGuest")
        self.answer(party, "put 3", "ok 1")
        self.ask(party, "sure 2", "table")
        self.ask(party, "without 1", "no")
        self.answer(party, "come 9", "ok 2")
        self.ask(party, "without 2", "yes")
        self.answer(party, "leave 2", "ok 3")
        self.ask(party, "without 2", "error NoGuest")


class ErrorTest(ShellCase):
    def test_each_error_of_a_party(self):
        full = Party((TWENTY, TWENTY))
        for party, line, name in [
            (Party(S), "come 0", "BadFoot"), (Party(S), "come 1000001", "BadFoot"), (full, "come 0", "BadFoot"),
            (full, "come 5", "TooManyGuests"), (Party(S), "leave 2", "NoGuest"),
            (Party(((7,), ())), "leave 1", "NoGuest"),
            (Party(((7,), ())), "leave 0", "LastGuest"), (Party(S), "put 0", "BadSize"), (full, "put 0", "BadSize"),
            (Party(S), "put 1000001", "BadSize"), (full, "put 5", "TooManyPairs"), (Party(S), "take 2", "NoPair"),
            (Party(((7,), ())), "take 0", "NoPair"), (Party(S), "undo", "NothingToUndo"),
            (PledgedParty(S, 1), "take 99", "NoPair"), (PledgedParty(((2,), (2,)), 1), "take 0", "TooFewServed"),
            (PledgedParty(((2,), (2,)), 1), "leave 0", "LastGuest"), (PledgedParty(S, 1), "sure 1001", "BadNumber"),
            (PledgedParty(((2, 3), (3, 4)), 2), "leave 0", "TooFewServed"),
            (PledgedParty(S, 1), "without 2", "NoGuest"),
        ]:
            self.assertTrue(hasattr(errors, name))
            self.ask(party, line, "error " + name)

    def test_too_many_edits_come_first(self):
        party = Party(((5,), TWENTY[:19]))
        for _ in range(30):
            party.put(5)
            party.take(0)
        for line in ["come 5", "come 0", "leave 0", "leave 7", "put 5", "put 0", "take 0", "take 99"]:
            self.ask(party, line, "error TooManyEdits")
        self.ask(party, "most", "1")

    def test_while_a_watch_runs(self):
        party = Party(S)

        def watch(one):
            for line in ["come 5", "come 0", "leave 0", "leave 9", "put 5", "put 0", "take 0", "take 9", "undo"]:
                self.ask(one, line, "error Busy")
            for line in ["party 1", "come", "come -1", "come 123456789", "undo ", "Undo", "", "put x", "take 01", None]:
                self.ask(one, line, UNKNOWN)
            self.ask(one, "party", hall_text(one.hall))
            self.ask(one, "most", str(one.most))
            self.ask(one, "fewest", str(one.fewest))
            self.ask(one, "sure 1", "table")
            self.ask(one, "sure 1001", "error BadNumber")
            self.ask(one, "without 0", "no")
            self.ask(one, "without 5", "error NoGuest")

        self.assertEqual(party.attempt([("put", 9), ("put", 10)], watch=watch), 2)
        self.answer(party, "undo", "ok 1")


class UnknownTest(ShellCase):
    def party(self):
        party = Party(S)
        party.put(9)
        return party

    def test_numbers_of_up_to_eight_digits(self):
        for name in NUMBERED:
            for number in ["1", "12", "12345678", "99999999", "10000000", "0", "1000"]:
                self.assertNotEqual(Shell(self.party()).execute(f"{name} {number}"), UNKNOWN)
            for number in ["123456789", "100000000", "1234567890", "9" * 1900, "0" * 1900]:
                self.ask(self.party(), f"{name} {number}", UNKNOWN)

    def test_numbers_that_are_not_written_as_described(self):
        for name in NUMBERED:
            for number in [
                "01", "00", "00000001", "000000001", "+1", "-1", "-0", "1_0", "_1", "1_", "1.0", "1e1", "0x1",
                "0b1", "1,0",
                "1,", "one", "", "1l", "1 1", "1 ", " 1", "None", "True", "(1)", "'1'", "1\n", "\n1", "1\t", "~", "/",
                "\u0661", "\u00b2", "\u0967", "\uff11",
            ]:
                self.ask(self.party(), f"{name} {number}", UNKNOWN)

    def test_spaces_and_words(self):
        for name in NUMBERED:
            for line in [
                name, f"{name} ", f" {name}", f" {name} 1", f"{name}  1", f"{name} 1 ", f"{name} 1 1", f"{name} 1  ",
                f"{name}1", f"{name}, 1", f"{name},1", f"{name}\n1", f"{name} 1\n", f"\n{name} 1", f"{name}\t1",
                f"{name}: 1",
                f"1 {name}", f"{name} {name}", f"{name} {name} 1", f"{name.upper()} 1", f"{name.title()} 1",
                f"{name}s 1",
                f"{name[:-1]} 1", f"{name} 1;", f"({name} 1)", f"{name}(1)", f"'{name} 1'",
            ]:
                self.ask(self.party(), line, UNKNOWN)
        for name in PLAIN:
            for line in [
                f" {name}", f"{name} ", f"  {name}", f"{name} 1", f"{name} 0", f"{name}\n", f"\n{name}",
                f"{name} {name}",
                name.upper(), name.title(), name + "s", name[:-1], f"{name}()", f"'{name}'", f"{name}1", f"{name} \n",
            ]:
                self.ask(self.party(), line, UNKNOWN)

    def test_other_words(self):
        for word in [
            "", " ", "  ", "\n", "1", "0", "ok", "error", "hall", "feet", "pairs", "edits", "state", "walk",
            "read", "attempt",
            "certificate", "watch", "spare", "pledge", "len", "str", "execute", "help", "quit", "exit", "redo",
            "served", "left",
            "_edit", "_do", "__init__", "MOST_EDITS", "party.most",
        ]:
            for line in [word, word + " 1", word + " 0"]:
                self.ask(self.party(), line, UNKNOWN)

    def test_any_values(self):
        lines = [b"most", ["most"], ("most",), ("put", 1), ["put", "1"], {"most": 1}]
        for value in [*any_values(), *other_values(), *lines]:
            self.ask(self.party(), value, UNKNOWN)
        for value in [True, None, 1, "x" * 2000, "1" * 2000, "put " * 500, "most" + " " * 1990]:
            self.ask(self.party(), value, UNKNOWN)


if __name__ == "__main__":
    unittest.main()
