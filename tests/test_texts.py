"""[19]: seatings, coming lists and tables as texts."""

import unittest
from itertools import product

from newtables.errors import InvalidText
from newtables.texts import read_coming, read_seating, read_tables, write_coming, write_seating, write_tables
from tests.helpers import all_comings, all_seatings, plain_tables

ALONE = list(range(20))
RING = list(range(1, 20)) + [0]
READERS = (read_seating, read_coming, read_tables)

# No words of any text: what is no number, and numbers in another form.
NO_WORDS = [
    "", "00", "01", "007", "+1", "-1", "-0", "1.0", "1e0", "0x1", "1_0", "1,", ",", "a", "|0", "0|", "||", "one", "x",
    "\n", "0\n", "\n0", "0\n1", "20", "21", "99", "100", "1" * 31, "9" * 100, "1" * 5000, "(0,)", "[0]", "None", "True",
    "0" * 8000, "~", "\\", "'0'", "\"0\"", "#", "0;", "2\n",
]


def place_of(function, text):
    """The place at which a reader stops, None if it reads the text."""
    try:
        function(text)
    except InvalidText as error:
        assert type(error.place) is int
        return error.place
    return None


class SmallTextsTest(unittest.TestCase):
    """All texts of up to four words with guests up to 4, against the beginnings of all valid texts.

    If a valid text goes on behind such words at all, then one with up to six guests.
    """

    def check(self, function, valid, most):
        texts = {" ".join(words) for words in valid}
        beginnings = {tuple(words[:many]) for words in valid for many in range(len(words) + 1)}
        read = 0
        for many in range(1, most + 1):
            for words in product(["0", "1", "2", "3", "4", "|", "", "01"], repeat=many):
                text = " ".join(words)
                expected = many if text not in texts else None
                for place in reversed(range(many)):
                    if words[:place + 1] not in beginnings:
                        expected = place
                with self.subTest(text=text):
                    self.assertEqual(place_of(function, text), expected)
                read += expected is None
        return read

    def test_seatings(self):
        valid = [[str(left) for left in one] for guests in range(1, 7) for one in all_seatings(guests)]
        self.assertEqual(self.check(read_seating, valid, 4), 1 + 2 + 6 + 24)

    def test_coming_lists(self):
        valid = [[str(item) for item in one] for guests in range(1, 6) for one in all_comings(guests)]
        self.assertEqual(self.check(read_coming, valid, 4), 1 + 2 + 6 + 24)

    def test_tables(self):
        valid = []
        for guests in range(1, 7):
            for seating in all_seatings(guests):
                words = []
                for table in plain_tables(seating):
                    words += ["|"] + [str(guest) for guest in table]
                valid.append(words[1:])
        # A table of up to four guests, two of them with up to three.
        self.assertEqual(self.check(read_tables, valid, 4), 1 + 1 + 2 + 6 + 1 + 3)

    def test_there_and_back(self):
        for guests in range(1, 6):
            for seating in all_seatings(guests):
                text = write_seating(seating)
                self.assertEqual(text, " ".join(map(str, seating)))
                self.assertEqual(read_seating(text), seating)
                tables = plain_tables(seating)
                text = write_tables(tables)
                self.assertEqual(text, " | ".join(" ".join(map(str, table)) for table in tables))
                self.assertEqual(read_tables(text), tables)
            for coming in all_comings(guests):
                text = write_coming(coming)
                self.assertEqual(text, " ".join(map(str, coming)))
                self.assertEqual(read_coming(text), coming)


class ByHandTest(unittest.TestCase):

    def test_the_examples(self):
        self.assertEqual(place_of(read_tables, "0 | 2"), 2)
        self.assertEqual(place_of(read_tables, "0 2"), 2)
        self.assertEqual(read_tables("0 1 3 | 2"), [(0, 1, 3), (2,)])
        self.assertEqual(write_tables([(0, 1, 3), (2,)]), "0 1 3 | 2")
        self.assertEqual(write_seating([1, 3, 2, 0]), "1 3 2 0")
        self.assertEqual(write_coming([0, 0, 2, 1]), "0 0 2 1")

    def test_one_guest(self):
        self.assertEqual(write_seating([0]), "0")
        self.assertEqual(write_coming([0]), "0")
        self.assertEqual(write_tables([(0,)]), "0")
        self.assertEqual(read_seating("0"), [0])
        self.assertEqual(read_coming("0"), [0])
        self.assertEqual(read_tables("0"), [(0,)])

    def test_the_empty_string_has_one_empty_word(self):
        for function in READERS:
            self.assertEqual(place_of(function, ""), 0)
            self.assertEqual(place_of(function, " "), 0)
            self.assertEqual(place_of(function, "   "), 0)

    def test_blanks(self):
        for function in READERS:
            self.assertEqual(place_of(function, " 0"), 0)
            self.assertEqual(place_of(function, "0 "), 1)
            self.assertEqual(place_of(function, "0  1"), 1)
        self.assertEqual(place_of(read_seating, "1 0 "), 2)
        self.assertEqual(place_of(read_tables, "0 |  1"), 2)
        self.assertEqual(place_of(read_tables, "0  | 1"), 1)
        self.assertEqual(place_of(read_seating, "0\t1"), 0)

    def test_no_words(self):
        for function in READERS:
            for word in NO_WORDS:
                with self.subTest(function=function.__name__, word=word[:20]):
                    self.assertEqual(place_of(function, word), 0)
                    self.assertEqual(place_of(function, "0 " + word), 1)
                    self.assertEqual(place_of(function, "0 " + word + " 1"), 1)

    def test_newlines(self):
        for function in READERS:
            self.assertEqual(place_of(function, "0 1\n"), 1)
            self.assertEqual(place_of(function, "\n"), 0)
            self.assertEqual(place_of(function, "0 1 \n"), 2)
            self.assertEqual(place_of(function, "0\n1 2"), 0)

    def test_bars(self):
        for text, place in (("|", 0), ("| 0", 0), ("0 |", 2), ("0 | |", 2), ("0 | | 1", 2), ("0 | 1 |", 4),
                            ("0 1 |", 3), ("0 2 | 1 |", 5), ("0 2 | 3", 3), ("0 | 1 | 3", 4), ("1", 0),
                            ("0 1 | 0", 3), ("0 0", 1), ("0 3 | 1", 4), ("0 19", 2), ("0 20", 1), ("0 | 1 0", 3)):
            with self.subTest(text=text):
                self.assertEqual(place_of(read_tables, text), place)
        for function in (read_seating, read_coming):
            self.assertEqual(place_of(function, "0 | 1"), 1)

    def test_a_guest_who_lacks(self):
        self.assertEqual(place_of(read_seating, "1"), 1)
        self.assertEqual(place_of(read_seating, "19"), 1)
        self.assertEqual(place_of(read_seating, "0 2"), 2)
        self.assertEqual(place_of(read_seating, "0 1 3"), 3)
        self.assertEqual(place_of(read_seating, "0 1 1"), 2)
        self.assertEqual(place_of(read_tables, "0 4 2"), 3)
        self.assertEqual(place_of(read_tables, "0 4 2 | 1 3 6"), 7)

    def test_twenty_guests(self):
        for seating in (ALONE, RING, [guest ^ 1 for guest in ALONE]):
            self.assertEqual(read_seating(write_seating(seating)), seating)
            self.assertEqual(read_tables(write_tables(plain_tables(seating))), plain_tables(seating))
        for coming in (ALONE, [0] * 20, [guest // 2 for guest in ALONE]):
            self.assertEqual(read_coming(write_coming(coming)), coming)

    def test_beyond_twenty_guests(self):
        for word in ("20", "0", "19", "x", "", "21"):
            self.assertEqual(place_of(read_seating, write_seating(ALONE) + " " + word), 20)
            self.assertEqual(place_of(read_coming, write_coming(ALONE) + " " + word), 20)
        one_table = write_tables([tuple(ALONE)])
        for word in ("20", "|", "0", "x", ""):
            self.assertEqual(place_of(read_tables, one_table + " " + word), 20)
        self.assertEqual(place_of(read_tables, write_tables(plain_tables(ALONE)) + " | 20"), 39)
        self.assertEqual(place_of(read_tables, write_tables(plain_tables(ALONE)) + " 20"), 39)
        self.assertEqual(place_of(read_tables, write_tables([tuple(ALONE[:19])]) + " |"), 20)
        self.assertEqual(place_of(read_coming, "0 1 2 3 4 6"), 5)
        self.assertEqual(place_of(read_coming, "0 2"), 1)

    def test_long_texts(self):
        self.assertEqual(place_of(read_seating, "0 " * 3999 + "0"), 1)
        self.assertEqual(place_of(read_coming, "0 " * 3999 + "0"), 20)
        self.assertEqual(place_of(read_tables, "0 | " * 1999 + "0"), 2)
        for function in READERS:
            self.assertEqual(place_of(function, " " * 8000), 0)
            self.assertEqual(place_of(function, "9" * 8000), 0)
            self.assertEqual(place_of(function, "\n" * 8000), 0)

    def test_by_name(self):
        self.assertEqual(write_seating(seating=[0]), "0")
        self.assertEqual(write_coming(coming=[0]), "0")
        self.assertEqual(write_tables(tables=[(0,)]), "0")
        for function in READERS:
            self.assertRaises(InvalidText, function, text="x")
            self.assertEqual(len(function(text="0")), 1)


if __name__ == "__main__":
    unittest.main()
