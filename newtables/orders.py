"""How many seatings and coming lists there are, and their numbers in ascending sequence."""

from math import factorial

from newtables.basics import check_guests, check_index, check_number, sum_at
from newtables.comings import check_coming
from newtables.seatings import check_seating
from newtables.weights import weights_by_tables


def count_seatings(guests):
    """How many seatings there are."""
    check_guests(guests)
    return factorial(guests)


def by_tables(guests):
    """The list of guests + 1 numbers, item t: how many seatings have t tables."""
    check_guests(guests)
    return weights_by_tables(guests, 1)


def nth_coming(guests, index):
    """The coming list with this index."""
    check_guests(guests)
    check_index(index, factorial(guests))
    items = []
    # The last item runs fastest, and has as many values as there are guests.
    for guest in reversed(range(guests)):
        index, item = divmod(index, guest + 1)
        items.append(item)
    return items[::-1]


def coming_index(coming):
    """The index of a coming list."""
    check_coming(coming)
    index = 0
    for guest, item in enumerate(coming):
        index = index * (guest + 1) + item
    return index


def nth_coming_with(guests, number, index):
    """The coming list with this index, of those with so many tables."""
    check_guests(guests)
    check_number(number, 1, guests)
    check_index(index, ways_to_come(0, guests, number))
    coming = []
    openings = number
    for guest in range(guests):
        ways = ways_to_come(guest + 1, guests, openings)
        if index < guest * ways:
            item, index = divmod(index, ways)
        else:
            item = guest
            index -= guest * ways
            openings -= 1
        coming.append(item)
    return coming


def coming_index_with(coming):
    """The index of a coming list, of those with as many tables."""
    check_coming(coming)
    openings = len([guest for guest, item in enumerate(coming) if item == guest])
    index = 0
    for guest, item in enumerate(coming):
        # Below this item all sit down, for a guest's own number is the greatest.
        index += item * ways_to_come(guest + 1, len(coming), openings)
        if item == guest:
            openings -= 1
    return index


def nth_seating(guests, index):
    """The seating with this index."""
    check_guests(guests)
    check_index(index, factorial(guests))
    free = list(range(guests))
    seating = []
    while free:
        at, index = divmod(index, factorial(len(free) - 1))
        seating.append(free.pop(at))
    return seating


def seating_index(seating):
    """The index of a seating."""
    check_seating(seating)
    free = list(range(len(seating)))
    index = 0
    for left in seating:
        at = free.index(left)
        index = index * len(free) + at
        free.pop(at)
    return index


def next_seating(seating):
    """The seating behind this one, or None."""
    index = seating_index(seating) + 1
    if index == factorial(len(seating)):
        return None
    return nth_seating(len(seating), index)


def ways_to_come(first, guests, openings):
    """In how many ways the guests from first on can come, so many of them opening a table."""
    return sum_at([(1, guest) for guest in range(first, guests)], openings)
