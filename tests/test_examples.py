"""The examples of the document: a session each, with the repr of its last expression or its error."""

import unittest

from shoeparty.errors import PartyError

SESSIONS = {
    "is_hall": (
        """
from shoeparty.halls import hall_error, is_hall
S = ((2, 3), (2, 4))
[is_hall(S), hall_error(((), ())), hall_error(((2, 3), (2, 0))), hall_error(((2,), None))]
""",
        "[True, (None, 'feet'), (1, 'pair'), (None, 'pairs')]",
    ),
    "counts_at": (
        """
from shoeparty.halls import counts_at
H = ((38, 40, 42, 44, 45), (36, 39, 41, 43, 46))
[counts_at(H, 42), counts_at(H, 44), counts_at(H, 1), counts_at(H, 10 ** 6 + 1)]
""",
        "[(2, 2), (3, 1), (0, 5), (5, 0)]",
    ),
    "is_run": (
        """
from shoeparty.runs import is_run
S = ((2, 3), (2, 4))
[is_run(S, ((0, 1), (1, -1))), is_run(S, ((0, 0), (1, -1))), is_run(S, ((1, 1), (0, 0))), is_run(S, ((1, 0), (0, 1)))]
""",
        "[True, False, True, False]",
    ),
    "served_by": (
        """
from shoeparty.runs import left_by, served_by
S = ((2, 3), (2, 4))
[served_by(S, ((0, 1), (1, -1))), left_by(S, ((0, 1), (1, -1))), left_by(S, ((1, 1), (0, 0)))]
""",
        "[(0,), (0,), ()]",
    ),
    "small_run": (
        """
from shoeparty.runs import large_run, small_run
S = ((2, 3), (2, 4))
[small_run(S, (0, 1)), large_run(S, (0, 1)), large_run(S, (1, 0))]
""",
        "[((0, 0), (1, 1)), ((0, 1), (1, -1)), ((1, 1), (0, 0))]",
    ),
    "most_served": (
        """
from shoeparty.numbers import fewest_served, most_served
S = ((2, 3), (2, 4))
H = ((38, 40, 42, 44, 45), (36, 39, 41, 43, 46))
[most_served(S), fewest_served(S), most_served(H), fewest_served(H)]
""",
        "[2, 1, 4, 2]",
    ),
    "sure_certificate": (
        """
from shoeparty.numbers import sure_certificate
S = ((2, 3), (2, 4))
[sure_certificate(S, 2), sure_certificate(((2,), (3,)), 1)]
""",
        "[('run', ((0, 1), (1, -1))), ('table', ('pairs',))]",
    ),
    "possible_certificate": (
        """
from shoeparty.numbers import possible_certificate
T = ((5, 5), (4, 6))
[possible_certificate(T, 0)[0], possible_certificate(T, 2)]
""",
        "['run', ('size', 5)]",
    ),
    "certificate_holds": (
        """
from shoeparty.numbers import possible_certificate_holds, sure_certificate_holds
S = ((2, 3), (2, 4))
[sure_certificate_holds(S, 1, ('table', ('pairs', 'feet'))), sure_certificate_holds(S, 2, ('table', ('pairs', 'feet'))), possible_certificate_holds(S, 3, ('size', 3))]
""",
        "[True, False, True]",
    ),
    "run_with": (
        """
from shoeparty.more import run_with
S = ((2, 3), (2, 4))
[run_with(S, 1), run_with(S, 0), run_with(S, 3)]
""",
        "[((0, 1), (1, -1)), None, None]",
    ),
    "run_without": (
        """
from shoeparty.more import run_leaving, run_without
S = ((2, 3), (2, 4))
[run_without(S, 1), run_without(S, 0), run_leaving(S, 0), run_leaving(S, 1)]
""",
        "[((0, 1), (1, -1)), None, ((0, 1), (1, -1)), None]",
    ),
    "can_miss": (
        """
from shoeparty.more import can_miss
S = ((2, 3), (2, 4))
[can_miss(S, (0, 1), 1), can_miss(S, (1, 0), 1), can_miss(S, (1, 0), 0)]
""",
        "[True, False, False]",
    ),
    "fewest_more": (
        """
from shoeparty.more import fewest_larger, fewest_more
S = ((2, 3), (2, 4))
H = ((38, 40, 42, 44, 45), (36, 39, 41, 43, 46))
[fewest_more(S, 2), fewest_more(H, 4), fewest_more(H, 6), fewest_larger(S, 2), fewest_larger(((2, 3), (4,)), 2)]
""",
        "[1, 3, None, 1, None]",
    ),
    "Shelf": (
        """
from shoeparty.values import Shelf
shelf = Shelf((41, 38, 41))
[shelf.sizes, len(shelf)]
""",
        "[(38, 41, 41), 3]",
    ),
    "shelf[value]": (
        """
from shoeparty.values import Shelf
one = Shelf((38, 41, 41))
other = Shelf((41,))
[one[1], (one + other).sizes, (one - other).sizes, other in one, one in other]
""",
        "[41, (38, 41, 41, 41), (38, 41), True, False]",
    ),
    "len of a shelf": (
        """
from shoeparty.values import Shelf
shelf = Shelf((12000, 9))
[str(shelf), shelf == Shelf((9, 12000)), shelf == (9, 12000)]
""",
        "['       9  12,000', True, False]",
    ),
    "Porter": (
        """
from shoeparty.values import Porter, Shelf
porter = Porter(Shelf((2, 4)))
[porter(3), porter(3), porter(1), porter.left.sizes, porter.served]
""",
        "[4, None, 2, (), 2]",
    ),
    "hall_text": (
        """
from shoeparty.texts import hall_text
S = ((2, 3), (2, 4))
[hall_text(S), hall_text(((7,), ()))]
""",
        "['2,3 / 2,4', '7 / -']",
    ),
    "parse_hall": (
        """
from shoeparty.texts import parse_hall
parse_hall('2,3 / 2,0')
""",
        "raises BadText(2)",
    ),
}


def shown_by(session):
    """The repr of the last expression of a session, or the error that it raises."""
    *rows, last = session.strip().splitlines()
    names = {}
    exec("\n".join(rows), names)
    try:
        return repr(eval(last, names))
    except (PartyError, LookupError) as error:
        fields = ", ".join([repr(field) for field in vars(error).values()])
        return f"raises {type(error).__name__}({fields})"


class ExamplesTest(unittest.TestCase):
    def test_sessions(self):
        for name, (session, shown) in SESSIONS.items():
            with self.subTest(name):
                self.assertEqual(shown_by(session), shown)


if __name__ == "__main__":
    unittest.main()
