"""[20]: sessions, by hand and against the methods and functions themselves."""

import random
import unittest

from newtables.comings import coming_of
from newtables.errors import HallError
from newtables.leaving import traceless
from newtables.live import Hall
from newtables.paths import distance
from newtables.powers import count_roots
from newtables.session import session
from newtables.texts import write_coming, write_seating, write_tables
from newtables.weights import seating_share
from tests.helpers import MOST

WORDS = {
    "open": 0, "sit": 1, "leave": 1, "exchange": 2, "undo": 0, "back": 1, "new": 1, "here": 0, "tables": 0,
    "seating": 0, "chance": 0, "share": 0, "coming": 0, "traceless": 0, "roots": 1, "far": 0,
}


def answers(*lines):
    """The answers to these lines, as a list."""
    return session("\n".join(lines)).split("\n")


def plain_answer(hall, word, numbers):
    """What the methods and functions themselves tell; the hall may be changed."""
    if word == "here":
        return " ".join(map(str, hall.here)) or "-"
    if word == "tables":
        return write_tables(hall.tables) if hall.here else "-"
    if word == "seating":
        return write_seating(hall.seating) if hall.here else "-"
    if word == "chance":
        return "/".join(map(str, hall.chance()))
    if word == "share":
        return "/".join(map(str, seating_share(hall.seating, hall.weight)))
    if word == "coming":
        return write_coming(coming_of(hall.seating))
    if word == "traceless":
        return " ".join(map(str, traceless(hall.seating)))
    if word == "roots":
        return str(count_roots(hall.seating, *numbers))
    if word == "far":
        return str(distance(hall.seating, sorted(hall.seating)))
    method = {"open": "open_table", "back": "undo_to"}.get(word, word)
    getattr(hall, method)(*numbers)
    return "ok"


class AgainstMethodsTest(unittest.TestCase):

    def test_line_by_line(self):
        chosen = random.Random(20)
        for _ in range(60):
            hall = Hall()
            lines, expected = [], []
            for _ in range(100):
                word = chosen.choice(list(WORDS) + ["open", "sit", "sit", "sit", "open", "exchange"])
                if word == "new" and chosen.random() < 0.7:
                    word = "sit"
                top = {"roots": 6, "new": 4, "back": len(hall) + 1}.get(word, max(hall.here, default=0) + 1)
                numbers = [chosen.randint(0, top) for _ in range(WORDS[word])]
                lines.append(" ".join([word, *map(str, numbers)]))
                try:
                    if word == "new":
                        hall = Hall(*numbers)
                        expected.append("ok")
                    else:
                        expected.append(plain_answer(hall, word, numbers))
                except HallError as error:
                    expected.append(type(error).__name__)
            self.assertEqual(answers(*lines), expected)


class ByHandTest(unittest.TestCase):

    def test_one_of_each(self):
        self.assertEqual(answers(
            "open", "sit 0", "open", "sit 1", "here", "tables", "seating", "chance", "share", "coming", "traceless",
            "roots 2", "roots 3", "far", "leave 0", "here", "tables", "seating", "exchange 1 2", "tables", "undo",
            "tables", "back 1", "tables", "new 2", "here", "open", "open", "chance", "share",
        ), [
            "ok", "ok", "ok", "ok", "0 1 2 3", "0 1 3 | 2", "1 3 2 0", "1/24", "1/24", "0 0 2 1", "2 3",
            "1", "0", "2", "ok", "1 2 3", "1 3 | 2", "2 1 0", "ok", "1 2 3", "ok",
            "1 3 | 2", "ok", "0", "ok", "-", "ok", "ok", "2/3", "2/3",
        ])

    def test_nobody(self):
        for ahead in ([], ["open", "undo"], ["open", "leave 0"], ["new 7"]):
            found = answers(*ahead, "here", "tables", "seating", "share", "coming", "traceless", "roots 1", "roots 0",
                            "far", "chance", "sit 0", "leave 0", "exchange 0 0")
            invalid = ["InvalidSeating"] * 6
            self.assertEqual(found[len(ahead):], ["-", "-", "-"] + invalid + ["1/1", "Refused", "Refused", "Refused"])
        self.assertEqual(answers("undo", "back 0", "back 1"), ["NothingToUndo", "ok", "InvalidIndex"])

    def test_the_empty_string_is_one_empty_line(self):
        self.assertEqual(session(""), "?")
        self.assertEqual(session("\n"), "?\n?")
        self.assertEqual(session("open\n"), "ok\n?")
        self.assertEqual(session("\nopen"), "?\nok")
        self.assertEqual(session("here"), "-")
        self.assertEqual(session(lines="open"), "ok")

    def test_empty_words(self):
        for line in ("open ", " open", " ", "  ", "sit  0", "sit 0 ", " sit 0", "exchange 0  0", "new 1 ", "here "):
            self.assertEqual(answers("open", line, "here"), ["ok", "?", "0"])

    def test_words_too_many_or_too_few(self):
        for word, many in WORDS.items():
            for number in range(5):
                if number != many:
                    line = " ".join([word] + ["0"] * number)
                    self.assertEqual(answers("open", line, "tables"), ["ok", "?", "0"])

    def test_other_lines(self):
        for line in ("Open", "OPEN", "close", "0", "-", "?", "ok", "open_table", "weight", "mark", "twin", "undo_to 0",
                     "open\t", "sit\t0", "open;", "'open'", "read 0", "newt 1", "sit0", "len", "1 sit"):
            self.assertEqual(answers("open", line, "here"), ["ok", "?", "0"])

    def test_no_numbers(self):
        for word, many in WORDS.items():
            for wrong in ("00", "01", "+0", "-1", "-0", "x", "1.0", "0x0", "1_0", "|", "one", "True", "", "1" * 32,
                          "9" * 100, "1" * 5000, "0" * 31):
                for place in range(many):
                    words = [word] + ["0"] * many
                    words[place + 1] = wrong
                    self.assertEqual(answers("open", " ".join(words), "here"), ["ok", "?", "0"])

    def test_numbers_of_31_digits(self):
        great = "9" * 31
        self.assertEqual(
            answers("open", f"sit {great}", f"leave {great}", f"exchange 0 {great}", f"exchange {great} 0",
                    f"back {great}", f"new {great}", f"roots {great}", "tables"),
            ["ok", "Refused", "Refused", "Refused", "Refused", "InvalidIndex", "InvalidWeight", "InvalidNumber", "0"])
        self.assertEqual(answers("open", f"sit {great}9", f"new {great}9", f"roots {great}9"), ["ok", "?", "?", "?"])

    def test_new(self):
        self.assertEqual(answers("open", "new 0", "here", "chance"), ["ok", "InvalidWeight", "0", "1/1"])
        self.assertEqual(answers("open", f"new {MOST + 1}", "here"), ["ok", "InvalidWeight", "0"])
        self.assertEqual(answers("open", f"new {MOST}", "here", "undo", "open", "open", "here", "chance"),
                         ["ok", "ok", "-", "NothingToUndo", "ok", "ok", "0 1", f"{MOST}/{MOST + 1}"])

    def test_lines_with_errors_change_nothing(self):
        wrong = ["sit 2", "leave 2", "exchange 0 2", "exchange 2 2", "back 3", "new 0", "roots 0", "what", "", "open 1"]
        ahead = ["open", "sit 0"]
        asked = ["tables", "chance", "back 2", "undo", "tables", "undo", "undo"]
        for line in wrong:
            found = answers(*ahead, line, *asked)
            self.assertIn(found[2], ("Refused", "InvalidIndex", "InvalidWeight", "InvalidNumber", "?"))
            self.assertEqual(found[3:], ["0 1", "1/2", "ok", "ok", "0", "ok", "NothingToUndo"])

    def test_full_hall(self):
        found = answers(*["open"] * 20, "open", "sit 0", "sit 20", "leave 3", "sit 3", "sit 4", "here", "far", "undo")
        self.assertEqual(found[:20], ["ok"] * 20)
        self.assertEqual(found[20:26], ["Refused", "Refused", "Refused", "ok", "Refused", "ok"])
        self.assertEqual(found[26], " ".join(str(guest) for guest in range(21) if guest != 3))
        self.assertEqual(found[27:], ["1", "ok"])

    def test_the_numbers_of_guests_and_places(self):
        # tables tells the guests' own numbers, seating and what follows from it their places.
        found = answers("open", "open", "leave 0", "sit 1", "open", "here", "tables", "seating", "coming", "traceless")
        self.assertEqual(found[5:], ["1 2 3", "1 2 | 3", "1 0 2", "0 0 2", "1 2"])

    def test_a_hundred_lines(self):
        lines = [f"new {MOST}"] + ["open", "leave 0", "open", "sit 1"] + ["sit 2", "leave 2", "back 4"] * 30
        lines += ["chance", "share", "roots 720720", "far", "tables"]
        self.assertEqual(len(lines), 100)
        found = answers(*lines)
        self.assertEqual(found[:95], ["ok"] * 95)
        self.assertEqual(len(found), 100)
        self.assertEqual(found[95:], [f"1/{MOST + 1}", f"1/{MOST + 1}", "0", "1", "1 2"])
        coming = [f"new {MOST}"] + ["open"] * 20 + ["chance"]
        self.assertEqual(answers(*coming)[-1], "/".join(map(str, seating_share(list(range(20)), MOST))))

    def test_a_great_chance(self):
        # One after another comes, and the one before leaves.
        lines = [f"new {MOST}"] + ["open"]
        for number in range(48):
            lines += [f"sit {number}", f"leave {number}"]
        found = answers(*lines, "chance", "here")
        self.assertEqual(found[-2:], [f"1/{(MOST + 1) ** 48}", "48"])


if __name__ == "__main__":
    unittest.main()
