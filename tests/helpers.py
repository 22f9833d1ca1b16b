"""What the tests share: objects of all kinds, and all seatings of a few guests."""

from fractions import Fraction
from itertools import permutations
from math import prod

from newtables.errors import HallError

# Objects of the kinds that may be passed anywhere, none of them valid as a list of guests.
NO_LISTS_OF_GUESTS = [
    None, True, False, 0, 1, -1, 10 ** 30, "", "0", "0 1", (), (0,), (1, 0), {}, {"0": 0}, HallError("0"),
    [], [None], ["0"], [True], [False], [[0]], [(0,)], [{}], [{"a": 0}], [0, True], [True, False],
    [1], [-1], [0, 0], [1, 1], [0, 2], [1, 2], [0, -1], [0, 1, None], [0, "1"], [0, [1]], [10 ** 30],
    [1, 0, 3], [0, 1, 1], list(range(21)), list(range(20)) + [0], [0] * 2000, [[]] * 2000,
]

NO_INTEGERS = [True, False, None, "1", "", [1], (1,), {}]


def all_seatings(guests):
    """All seatings, ascending."""
    return [list(order) for order in permutations(range(guests))]


def plain_tables(seating):
    """The tables as in the definition, by marking who has been seen."""
    tables = []
    seen = set()
    for guest in range(len(seating)):
        if guest not in seen:
            table = []
            while guest not in seen:
                seen.add(guest)
                table.append(guest)
                guest = seating[guest]
            tables.append(tuple(table))
    return tables


def plain_weight(seating, weight):
    return weight ** len(plain_tables(seating))


def plain_share(guests, weight, has_it):
    """The share, as a tuple, of the seatings for which has_it holds."""
    seatings = all_seatings(guests)
    top = sum(plain_weight(seating, weight) for seating in seatings if has_it(seating))
    return pair(Fraction(top, sum(plain_weight(seating, weight) for seating in seatings)))


def rising_product(guests, weight):
    return prod(weight + guest for guest in range(guests))


def pair(value):
    return (value.numerator, value.denominator)
