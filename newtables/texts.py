"""Seatings, coming lists and tables as texts: words with single blanks between."""

from newtables.basics import MOST_GUESTS
from newtables.errors import InvalidText
from newtables.seatings import are_tables, is_seating

BAR = "|"


def write_seating(seating):
    """The text of a seating."""
    return text_of(seating)


def read_seating(text):
    """The seating with this text."""
    words = text.split(" ")
    seating = []
    for place, word in enumerate(words):
        free = [guest for guest in range(MOST_GUESTS) if guest not in seating]
        seating.append(number_at(place, word, free))
    if not is_seating(seating):
        raise InvalidText(len(words))
    return seating


def write_coming(coming):
    """The text of a coming list."""
    return text_of(coming)


def read_coming(text):
    """The coming list with this text."""
    coming = []
    for place, word in enumerate(text.split(" ")):
        if place == MOST_GUESTS:
            raise InvalidText(place)
        coming.append(number_at(place, word, list(range(place + 1))))
    return coming


def write_tables(tables):
    """The text of a list of tables."""
    return " | ".join([text_of(table) for table in tables])


def read_tables(text):
    """The list of tables with this text."""
    words = text.split(" ")
    tables = [[]]
    free = list(range(MOST_GUESTS))
    for place, word in enumerate(words):
        if word == BAR and tables[-1] and free:
            tables.append([])
        else:
            # All who are below the opener of a table sit at former ones.
            guest = number_at(place, word, free if tables[-1] else free[:1])
            free.remove(guest)
            tables[-1].append(guest)
    read = [tuple(table) for table in tables]
    if not are_tables(read):
        raise InvalidText(len(words))
    return read


def text_of(numbers):
    """The text of a list or a tuple of numbers."""
    return " ".join([str(number) for number in numbers])


def number_at(place, word, numbers):
    """The one of these numbers that a word tells."""
    for number in numbers:
        if str(number) == word:
            return number
    raise InvalidText(place)
