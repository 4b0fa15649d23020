"""The examples of the document: a session each, with the repr of its last expression."""

import unittest

SESSIONS = {
    "is_hall": (
        """
from shoeparty.halls import hall_error, is_hall
S = ((2, 3), (2, 4))
[is_hall(S), hall_error(((), ())), hall_error(((2, 3), (2, 0))), hall_error(((2,), None))]
""",
        "[True, (None, 'feet'), (1, 'pair'), (None, 'pairs')]",
    ),
    "counts_at": (
        """
from shoeparty.halls import counts_at
H = ((38, 40, 42, 44, 45), (36, 39, 41, 43, 46))
[counts_at(H, 42), counts_at(H, 44), counts_at(H, 1), counts_at(H, 10 ** 6 + 1)]
""",
        "[(2, 2), (3, 1), (0, 5), (5, 0)]",
    ),
    "is_run": (
        """
from shoeparty.runs import is_run
S = ((2, 3), (2, 4))
[is_run(S, ((0, 1), (1, -1))), is_run(S, ((0, 0), (1, -1))), is_run(S, ((1, 1), (0, 0))), is_run(S, ((1, 0), (0, 1)))]
""",
        "[True, False, True, False]",
    ),
    "served_by": (
        """
from shoeparty.runs import left_by, served_by
S = ((2, 3), (2, 4))
[served_by(S, ((0, 1), (1, -1))), left_by(S, ((0, 1), (1, -1))), left_by(S, ((1, 1), (0, 0)))]
""",
        "[(0,), (0,), ()]",
    ),
    "small_run": (
        """
from shoeparty.runs import large_run, small_run
S = ((2, 3), (2, 4))
[small_run(S, (0, 1)), large_run(S, (0, 1)), large_run(S, (1, 0))]
""",
        "[((0, 0), (1, 1)), ((0, 1), (1, -1)), ((1, 1), (0, 0))]",
    ),
    "most_served": (
        """
from shoeparty.numbers import fewest_served, most_served
S = ((2, 3), (2, 4))
H = ((38, 40, 42, 44, 45), (36, 39, 41, 43, 46))
[most_served(S), fewest_served(S), most_served(H), fewest_served(H)]
""",
        "[2, 1, 4, 2]",
    ),
    "sure_certificate": (
        """
from shoeparty.numbers import sure_certificate
S = ((2, 3), (2, 4))
[sure_certificate(S, 2), sure_certificate(((2,), (3,)), 1)]
""",
        "[('run', ((0, 1), (1, -1))), ('table', ('pairs',))]",
    ),
    "possible_certificate": (
        """
from shoeparty.numbers import possible_certificate
T = ((5, 5), (4, 6))
[possible_certificate(T, 0)[0], possible_certificate(T, 2)]
""",
        "['run', ('size', 5)]",
    ),
    "certificate_holds": (
        """
from shoeparty.numbers import possible_certificate_holds, sure_certificate_holds
S = ((2, 3), (2, 4))
[sure_certificate_holds(S, 1, ('table', ('pairs', 'feet'))), sure_certificate_holds(S, 2, ('table', ('pairs', 'feet'))), possible_certificate_holds(S, 3, ('size', 3))]
""",
        "[True, False, True]",
    ),
}


class ExamplesTest(unittest.TestCase):
    def test_sessions(self):
        for name, (session, shown) in SESSIONS.items():
            with self.subTest(name):
                *rows, last = session.strip().splitlines()
                names = {}
                exec("\n".join(rows), names)
                self.assertEqual(repr(eval(last, names)), shown)


if __name__ == "__main__":
    unittest.main()
