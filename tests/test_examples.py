"""The examples of the document: a session each, with the repr of its last expression or its error."""

import unittest

from shoeparty.errors import PartyError

SESSIONS = {
    "is_hall": (
        """
from shoeparty.halls import hall_error, is_hall
S = ((2, 3), (2, 4))
[is_hall(S), hall_error(((), ())), hall_error(((2, 3), (2, 0))), hall_error(((2,), None))]
""",
        "[True, (None, 'feet'), (1, 'pair'), (None, 'pairs')]",
    ),
    "counts_at": (
        """
from shoeparty.halls import counts_at
H = ((38, 40, 42, 44, 45), (36, 39, 41, 43, 46))
[counts_at(H, 42), counts_at(H, 44), counts_at(H, 1), counts_at(H, 10 ** 6 + 1)]
""",
        "[(2, 2), (3, 1), (0, 5), (5, 0)]",
    ),
    "is_run": (
        """
from shoeparty.runs import is_run
S = ((2, 3), (2, 4))
[is_run(S, ((0, 1), (1, -1))), is_run(S, ((0, 0), (1, -1))), is_run(S, ((1, 1), (0, 0))), is_run(S, ((1, 0), (0, 1)))]
""",
        "[True, False, True, False]",
    ),
    "served_by": (
        """
from shoeparty.runs import left_by, served_by
S = ((2, 3), (2, 4))
[served_by(S, ((0, 1), (1, -1))), left_by(S, ((0, 1), (1, -1))), left_by(S, ((1, 1), (0, 0)))]
""",
        "[(0,), (0,), ()]",
    ),
    "small_run": (
        """
from shoeparty.runs import large_run, small_run
S = ((2, 3), (2, 4))
[small_run(S, (0, 1)), large_run(S, (0, 1)), large_run(S, (1, 0))]
""",
        "[((0, 0), (1, 1)), ((0, 1), (1, -1)), ((1, 1), (0, 0))]",
    ),
    "most_served": (
        """
from shoeparty.numbers import fewest_served, most_served
S = ((2, 3), (2, 4))
H = ((38, 40, 42, 44, 45), (36, 39, 41, 43, 46))
[most_served(S), fewest_served(S), most_served(H), fewest_served(H)]
""",
        "[2, 1, 4, 2]",
    ),
    "sure_certificate": (
        """
from shoeparty.numbers import sure_certificate
S = ((2, 3), (2, 4))
[sure_certificate(S, 2), sure_certificate(((2,), (3,)), 1)]
""",
        "[('run', ((0, 1), (1, -1))), ('table', ('pairs',))]",
    ),
    "possible_certificate": (
        """
from shoeparty.numbers import possible_certificate
T = ((5, 5), (4, 6))
[possible_certificate(T, 0)[0], possible_certificate(T, 2)]
""",
        "['run', ('size', 5)]",
    ),
    "certificate_holds": (
        """
from shoeparty.numbers import possible_certificate_holds, sure_certificate_holds
S = ((2, 3), (2, 4))
[sure_certificate_holds(S, 1, ('table', ('pairs', 'feet'))), sure_certificate_holds(S, 2, ('table', ('pairs', 'feet'))), possible_certificate_holds(S, 3, ('size', 3))]
""",
        "[True, False, True]",
    ),
    "run_with": (
        """
from shoeparty.more import run_with
S = ((2, 3), (2, 4))
[run_with(S, 1), run_with(S, 0), run_with(S, 3)]
""",
        "[((0, 1), (1, -1)), None, None]",
    ),
    "run_without": (
        """
from shoeparty.more import run_leaving, run_without
S = ((2, 3), (2, 4))
[run_without(S, 1), run_without(S, 0), run_leaving(S, 0), run_leaving(S, 1)]
""",
        "[((0, 1), (1, -1)), None, ((0, 1), (1, -1)), None]",
    ),
    "can_miss": (
        """
from shoeparty.more import can_miss
S = ((2, 3), (2, 4))
[can_miss(S, (0, 1), 1), can_miss(S, (1, 0), 1), can_miss(S, (1, 0), 0)]
""",
        "[True, False, False]",
    ),
    "fewest_more": (
        """
from shoeparty.more import fewest_larger, fewest_more
S = ((2, 3), (2, 4))
H = ((38, 40, 42, 44, 45), (36, 39, 41, 43, 46))
[fewest_more(S, 2), fewest_more(H, 4), fewest_more(H, 6), fewest_larger(S, 2), fewest_larger(((2, 3), (4,)), 2)]
""",
        "[1, 3, None, 1, None]",
    ),
    "count_runs": (
        """
from shoeparty.counting import count_runs, count_served
S = ((2, 3), (2, 4))
[count_runs(S), count_served(S)]
""",
        "[3, (0, 1, 2)]",
    ),
    "each_run": (
        """
from shoeparty.counting import each_run
S = ((2, 3), (2, 4))
list(each_run(S))
""",
        "[((0, 0), (1, 1)), ((0, 1), (1, -1)), ((1, 1), (0, 0))]",
    ),
    "Shelf": (
        """
from shoeparty.values import Shelf
shelf = Shelf((41, 38, 41))
[shelf.sizes, len(shelf)]
""",
        "[(38, 41, 41), 3]",
    ),
    "shelf[value]": (
        """
from shoeparty.values import Shelf
one = Shelf((38, 41, 41))
other = Shelf((41,))
[one[1], (one + other).sizes, (one - other).sizes, other in one, one in other]
""",
        "[41, (38, 41, 41, 41), (38, 41), True, False]",
    ),
    "len of a shelf": (
        """
from shoeparty.values import Shelf
shelf = Shelf((12000, 9))
[str(shelf), shelf == Shelf((9, 12000)), shelf == (9, 12000)]
""",
        "['       9  12,000', True, False]",
    ),
    "Porter": (
        """
from shoeparty.values import Porter, Shelf
porter = Porter(Shelf((2, 4)))
[porter(3), porter(3), porter(1), porter.left.sizes, porter.served]
""",
        "[4, None, 2, (), 2]",
    ),
    "Party": (
        """
from shoeparty.parties import Party
S = ((2, 3), (2, 4))
party = Party(S)
[party.hall == S, party.most, party.fewest, len(party)]
""",
        "[True, 2, 1, 0]",
    ),
    "MOST_EDITS": (
        """
from shoeparty.parties import Party
[Party.MOST_EDITS, Party(((7,), ())).most]
""",
        "[60, 0]",
    ),
    "come": (
        """
from shoeparty.parties import Party
S = ((2, 3), (2, 4))
party = Party(S)
[party.put(3), party.fewest, party.take(0), party.hall, party.leave(0), party.hall]
""",
        "[1, 2, 2, ((2, 3), (4, 3)), 3, ((3,), (4, 3))]",
    ),
    "undo": (
        """
from shoeparty.parties import Party
S = ((2, 3), (2, 4))
party = Party(S)
[party.take(1), party.most, party.undo(), party.most]
""",
        "[1, 1, 0, 2]",
    ),
    "attempt": (
        """
from shoeparty.parties import Party
S = ((2, 3), (2, 4))
party = Party(S)
party.attempt([('come', 9), ('take', 2)])
""",
        "raises Rejected(1)",
    ),
    "state": (
        """
from shoeparty.parties import Party
party = Party(((7,), ()))
[party.put(8), party.state(), party.state(version=0)]
""",
        "[1, ((7,), (8,)), ((7,), ())]",
    ),
    "certificate": (
        """
from shoeparty.parties import Party
S = ((2, 3), (2, 4))
Party(S).certificate(2)
""",
        "('run', ((0, 1), (1, -1)))",
    ),
    "walk": (
        """
from shoeparty.parties import Party
list(Party(((3, 2, 9), (2, 4))).walk())
""",
        "[(0, 4, (2,)), (1, 2, ()), (2, 0, ())]",
    ),
    "edits": (
        """
from shoeparty.parties import Party
party = Party(((7,), ()))
[party.put(8), party.edits()]
""",
        "[1, (('put', 8),)]",
    ),
    "read": (
        """
from shoeparty.parties import Party
Party.read('2,3 / 2,4').hall
""",
        "((2, 3), (2, 4))",
    ),
    "len of a party": (
        """
from shoeparty.parties import Party
S = ((2, 3), (2, 4))
[str(Party(S)), Party(S) == Party(((3, 2), (4, 2)))]
""",
        "['2 guests, 2 pairs, served 1 to 2, 0 edits', True]",
    ),
    "Pledge": (
        """
from shoeparty.pledges import Pledge
made = Pledge(3)
[made.pledge, made.spare(5)]
""",
        "[3, 2]",
    ),
    "PledgedParty": (
        """
from shoeparty.parties import PledgedParty
S = ((2, 3), (2, 4))
party = PledgedParty(S, 1)
[party.spare(party.fewest), party.put(9), party.fewest, party.take(0), party.take(0), party.take(0)]
""",
        "raises TooFewServed(0)",
    ),
    "hall_text": (
        """
from shoeparty.texts import hall_text
S = ((2, 3), (2, 4))
[hall_text(S), hall_text(((7,), ()))]
""",
        "['2,3 / 2,4', '7 / -']",
    ),
    "parse_hall": (
        """
from shoeparty.texts import parse_hall
parse_hall('2,3 / 2,0')
""",
        "raises BadText(2)",
    ),
    "Shell": (
        """
from shoeparty.parties import Party
from shoeparty.shells import Shell
Shell(Party(((7,), ()))).execute('party')
""",
        "'7 / -'",
    ),
    "execute": (
        """
from shoeparty.parties import Party
from shoeparty.shells import Shell
S = ((2, 3), (2, 4))
shell = Shell(Party(S))
[shell.execute('fewest'), shell.execute('sure 2'), shell.execute('without 1'), shell.execute('without 2'), shell.execute('put 3'), shell.execute('sure 2'), shell.execute('take')]
""",
        "['1', 'run', 'yes', 'error NoGuest', 'ok 1', 'table', 'unknown command']",
    ),
}


def shown_by(session):
    """The repr of the last expression of a session, or the error that it raises."""
    *rows, last = session.strip().splitlines()
    names = {}
    exec("\n".join(rows), names)
    try:
        return repr(eval(last, names))
    except (PartyError, LookupError) as error:
        fields = ", ".join([repr(field) for field in vars(error).values()])
        return f"raises {type(error).__name__}({fields})"


class ExamplesTest(unittest.TestCase):
    def test_sessions(self):
        for name, (session, shown) in SESSIONS.items():
            with self.subTest(name):
                self.assertEqual(shown_by(session), shown)


if __name__ == "__main__":
    unittest.main()
