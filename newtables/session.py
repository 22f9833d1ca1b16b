"""A hall that is told by lines of text, with one line of answer for each."""

from newtables.comings import coming_of
from newtables.errors import HallError
from newtables.leaving import traceless
from newtables.live import Hall
from newtables.paths import distance
from newtables.powers import count_roots
from newtables.texts import text_of, write_coming, write_seating, write_tables
from newtables.weights import seating_share

DONE = "ok"
UNKNOWN = "?"
NOBODY = "-"
NEW = "new"
DIGITS = "0123456789"
MOST_DIGITS = 31


def session(lines):
    """The answers to the lines, one line for each."""
    hall = Hall()
    answers = []
    for line in lines.split("\n"):
        words = line.split(" ")
        if not is_line(words):
            answers.append(UNKNOWN)
            continue
        numbers = [int(word) for word in words[1:]]
        try:
            if words[0] == NEW:
                hall = Hall(numbers[0])
                answers.append(DONE)
            else:
                answers.append(answer_of(hall, words[0], numbers))
        except HallError as error:
            answers.append(type(error).__name__)
    return "\n".join(answers)


def is_line(words):
    """Whether a line of these words is one that a session knows."""
    if words[0] not in NUMBERS or len(words) != NUMBERS[words[0]] + 1:
        return False
    return all([is_number(word) for word in words[1:]])


def is_number(word):
    """Whether a word is a number of at most 31 digits without leading zeros."""
    if not 1 <= len(word) <= MOST_DIGITS or not all([sign in DIGITS for sign in word]):
        return False
    return word == "0" or word[0] != "0"


def answer_of(hall, word, numbers):
    """The answer to a line of a known word, but new, and of as many numbers as it needs."""
    action = ACTIONS[word]
    answer = action(hall, *numbers)
    return DONE if answer is None else answer


def let_open(hall):
    hall.open_table()


def let_sit(hall, mate):
    hall.sit(mate)


def let_leave(hall, guest):
    hall.leave(guest)


def let_exchange(hall, guest, mate):
    hall.exchange(guest, mate)


def go_back(hall):
    hall.undo()


def go_back_to(hall, index):
    hall.undo_to(index)


def tell_here(hall):
    return text_of(hall.here) or NOBODY


def tell_tables(hall):
    return write_tables(hall.tables) or NOBODY


def tell_seating(hall):
    return write_seating(hall.seating) or NOBODY


def tell_chance(hall):
    return text_of_fraction(hall.chance())


def tell_share(hall):
    return text_of_fraction(seating_share(hall.seating, hall.weight))


def tell_coming(hall):
    return write_coming(coming_of(hall.seating))


def tell_traceless(hall):
    return text_of(traceless(hall.seating)) or NOBODY


def tell_roots(hall, number):
    return str(count_roots(hall.seating, number))


def tell_far(hall):
    seating = hall.seating
    return str(distance(seating, list(range(len(seating)))))


def text_of_fraction(share):
    return f"{share[0]}/{share[1]}"


# How many numbers stand behind the word of a line.
NUMBERS = {
    "open": 0, "sit": 1, "leave": 1, "exchange": 2, "undo": 0, "back": 1, "new": 1, "here": 0, "tables": 0,
    "seating": 0, "chance": 0, "share": 0, "coming": 0, "traceless": 0, "roots": 1, "far": 0,
}

ACTIONS = {
    "open": let_open, "sit": let_sit, "leave": let_leave, "exchange": let_exchange, "undo": go_back,
    "back": go_back_to, "here": tell_here, "tables": tell_tables, "seating": tell_seating, "chance": tell_chance,
    "share": tell_share, "coming": tell_coming, "traceless": tell_traceless, "roots": tell_roots, "far": tell_far,
}
