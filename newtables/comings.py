"""Coming lists: how the guests of a seating came, one by one."""

from newtables.basics import MOST_GUESTS, check_number, is_within
from newtables.errors import InvalidComing
from newtables.seatings import check_seating, tables_of


def is_coming(thing):
    """Whether any object is a coming list."""
    if type(thing) != list or not 1 <= len(thing) <= MOST_GUESTS:
        return False
    return all([is_within(item, 0, guest) for guest, item in enumerate(thing)])


def coming_of(seating):
    """The coming list that leads to a seating."""
    check_seating(seating)
    rest = list(seating)
    items = []
    while rest:
        # For a guest who sits alone the right neighbour is the guest itself.
        right = rest.index(len(rest) - 1)
        items.append(right)
        rest[right] = rest[-1]
        rest.pop()
    return items[::-1]


def seating_by(coming):
    """The seating to which a coming list leads."""
    check_coming(coming)
    seating = []
    for guest, right in enumerate(coming):
        seating.append(guest)
        if right != guest:
            seating[guest] = seating[right]
            seating[right] = guest
    return seating


def openers_of(seating):
    """The ascending list of the guests who opened the tables."""
    return [table[0] for table in tables_of(seating)]


def hall_of(coming, number):
    """The seating of the first guests, so many of them."""
    check_coming(coming)
    check_number(number, 1, len(coming))
    return seating_by(coming[:number])


def check_coming(coming):
    if not is_coming(coming):
        raise InvalidComing("a coming list must have 1 to 20 items, item i from 0 to i")
