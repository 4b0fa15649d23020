import re
import unittest

from samples import H, LARGEST, S, any_values, large_halls, mixed_halls, small_halls
from shoeparty import errors
from shoeparty.texts import hall_text, parse_hall
from shoeparty.values import Shelf

SIZE = "(?:[1-9][0-9]{0,5}|1000000)"
FEET = re.compile(f"{SIZE}(?:,{SIZE}){{0,19}}")
PAIRS = re.compile(f"-|{SIZE}(?:,{SIZE}){{0,19}}")
WRONG_SIZES = [
    "", "0", "00", "01", "007", "0x1", "1e3", "+1", "-1", "-", "--", "+", "1.0", "1_0", "_1", "1_", "a", "1a", "a1",
    "1000001", "01000000", "1000000000", "9" * 40, "9" * 1900, "9" * 10000, "1" + "0" * 5000, "0" * 5000, "\n1", "1\n",
    "1\t", "\t1", "\u0661", "\u0967\u0968", "\uff11", "\u00b2", "1\u00b2", "\u2155", "\u4e00", "2\u00a0", "/", "None",
    "True", "1/2", "2;3", "1\r", "\x0c1", "1\x00", "(1)",
]


def index_of_error(text):
    """None for a text of a hall, otherwise the index of point [17], by a regular expression for each word."""
    words = text.split(" ")
    right = [FEET.fullmatch, re.compile("/").fullmatch, PAIRS.fullmatch]
    for index, word in enumerate(words):
        if index == 3 or not right[index](word):
            return index
    return len(words) if len(words) < 3 else None


class HallTextTest(unittest.TestCase):
    def test_texts(self):
        self.assertEqual(hall_text(S), "2,3 / 2,4")
        self.assertEqual(hall_text(H), "38,40,42,44,45 / 36,39,41,43,46")
        self.assertEqual(hall_text(((7,), ())), "7 / -")
        self.assertEqual(hall_text(((7,), (9,))), "7 / 9")
        self.assertEqual(hall_text(((3, 1, 2), ())), "3,1,2 / -")
        self.assertEqual(hall_text(((LARGEST, 1), (10, LARGEST, 100))), "1000000,1 / 10,1000000,100")

    def test_twenty_guests_and_pairs(self):
        self.assertEqual(hall_text(((1,) * 20, (10,) * 20)), "1,1,1,1,1,1,1,1,1,1,1,1,1,1,1,1,1,1,1,1 / "
                         "10,10,10,10,10,10,10,10,10,10,10,10,10,10,10,10,10,10,10,10")

    def test_there_and_back(self):
        for hall in [*small_halls(), *large_halls(), *mixed_halls(5, 3, 20, 1), *mixed_halls(5, LARGEST, 1, 20)]:
            with self.subTest(hall=hall):
                self.assertEqual(repr(parse_hall(hall_text(hall))), repr(hall))


class ParseHallTest(unittest.TestCase):
    def refuse(self, value, index):
        with self.subTest(value=value), self.assertRaises(errors.BadText) as caught:
            parse_hall(value)
        self.assertIs(type(caught.exception), errors.BadText)
        self.assertEqual(repr(caught.exception.index), repr(index))

    def check(self, text):
        index = index_of_error(text)
        if index is None:
            with self.subTest(text=text):
                self.assertEqual(hall_text(parse_hall(text)), text)
        else:
            self.refuse(text, index)

    def test_halls(self):
        self.assertEqual(repr(parse_hall("2,3 / 2,4")), repr(S))
        self.assertEqual(repr(parse_hall("7 / -")), "((7,), ())")
        self.assertEqual(repr(parse_hall("7 / 7")), "((7,), (7,))")
        self.assertEqual(repr(parse_hall("1000000,1 / 1,1000000,20")), "((1000000, 1), (1, 1000000, 20))")

    def test_no_texts(self):
        for value in any_values():
            if not isinstance(value, str):
                self.refuse(value, None)
        for value in [S, ("2,3", "/", "2,4"), ["7 / -"], b"7 / -", Shelf((7,))]:
            self.refuse(value, None)

    def test_other_texts(self):
        for value in any_values():
            if isinstance(value, str):
                self.check(value)

    def test_wrong_sizes(self):
        for word in WRONG_SIZES:
            for sizes in [word, word + ",2", "2," + word, "2," + word + ",3"]:
                self.refuse(sizes + " / 2,4", 0)
                if sizes != "-":
                    self.refuse("2,3 / " + sizes, 2)
        self.refuse("- / 2", 0)
        self.refuse("- / -", 0)
        self.refuse("2 / 2,-", 2)
        self.refuse("2 / -,2", 2)
        self.refuse("2 / --", 2)

    def test_separators(self):
        for word in ["2,", ",2", "2,,3", ",", ",,", "2,3,", "2, ", "2;3", "2/3"]:
            self.check(word + " / 2")
            self.check("2 / " + word)
        for word in ["", "//", "-", "2", "\\", "|", ",", "/\n", "\n/", "/-", "\uff0f"]:
            self.refuse("2,3 " + word + " 2,4", 1)
        self.refuse("2,3/2,4", 0)
        self.refuse("2,3 /2,4", 1)
        self.refuse("2,3/ 2,4", 0)

    def test_spaces(self):
        self.refuse("", 0)
        self.refuse(" ", 0)
        self.refuse(" 2,3 / 2,4", 0)
        self.refuse("2,3  / 2,4", 1)
        self.refuse("2,3 /  2,4", 2)
        self.refuse("2,3 / 2,4 ", 3)
        self.refuse("2,3 / 2,4  ", 3)
        self.refuse("2, 3 / 2,4", 0)
        self.refuse("2,3 / 2, 4", 2)
        self.refuse("2,3 / 2 4", 3)
        self.refuse("2,3\t/\t2,4", 0)
        self.refuse("2,3\n/ 2,4", 0)
        self.refuse("2,3 / 2,4\n", 2)

    def test_numbers_of_words(self):
        self.refuse("2,3", 1)
        self.refuse("2,3 /", 2)
        self.refuse("0", 0)
        self.refuse("2,3 -", 1)
        self.refuse("2,3 ", 1)
        self.refuse("2,3 / ", 2)
        self.refuse("2,3 / 2,4 /", 3)
        self.refuse("2,3 / 2,4 / 5", 3)
        self.refuse("2,3 / - -", 3)
        self.refuse("2,3 / 0 -", 2)
        self.refuse("0 x 0 x", 0)
        self.refuse("2 x 0 x", 1)
        self.refuse("2 / 2" + " 2" * 900, 3)

    def test_numbers_of_guests_and_pairs(self):
        for many in [1, 2, 19, 20]:
            sizes = ",".join(["5"] * many)
            self.assertEqual(parse_hall(f"{sizes} / {sizes}"), ((5,) * many, (5,) * many))
        for many in [21, 22, 500]:
            sizes = ",".join(["5"] * many)
            self.refuse(f"{sizes} / 5", 0)
            self.refuse(f"5 / {sizes}", 2)
            self.refuse(f"{sizes} / {sizes}", 0)

    def test_each_change_of_one_sign(self):
        for text in ["2,30 / 10,4", "7 / -", "1000000 / 999999,1"]:
            for at in range(len(text) + 1):
                self.check(text[:at] + text[at + 1:])
                for sign in "0129,/- +_x\n":
                    self.check(text[:at] + sign + text[at:])
                    self.check(text[:at] + sign + text[at + 1:])

    def test_all_short_texts(self):
        signs = "01,/- "
        texts = [""]
        for _ in range(5):
            texts = [text + sign for text in texts for sign in signs]
            for text in texts:
                self.check(text)


if __name__ == "__main__":
    unittest.main()
