import unittest

from shoeparty import bounds


class BoundsTest(unittest.TestCase):
    def test_values_that_the_points_name(self):
        named = {
            "LIMIT": 1000, "MAX_SIZE": 10 ** 6, "MAX_GUESTS": 20, "MAX_PAIRS": 20,
            "MAX_SHELF": 100, "SMALL": 6, "MAX_EDITS": 60, "BATCH": 20,
        }
        for name, value in named.items():
            with self.subTest(name):
                self.assertEqual(getattr(bounds, name), value)
                self.assertIs(type(getattr(bounds, name)), int)


if __name__ == "__main__":
    unittest.main()
