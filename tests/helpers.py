"""What the tests share: objects of all kinds, and all seatings of a few guests."""

from fractions import Fraction
from itertools import combinations, permutations, product
from math import prod

from newtables.errors import HallError
from newtables.live import Hall

# Objects of the kinds that may be passed anywhere, none of them valid as a list of guests.
NO_LISTS_OF_GUESTS = [
    None, True, False, 0, 1, -1, 10 ** 30, "", "0", "0 1", (), (0,), (1, 0), {}, {"0": 0}, HallError("0"), Hall(),
    [Hall()], [0, Hall()],
    [], [None], ["0"], [True], [False], [[0]], [(0,)], [{}], [{"a": 0}], [0, True], [True, False],
    [1], [-1], [0, 0], [1, 1], [0, 2], [1, 2], [0, -1], [0, 1, None], [0, "1"], [0, [1]], [10 ** 30],
    [1, 0, 3], [0, 1, 1], list(range(21)), list(range(20)) + [0], [0] * 2000, [[]] * 2000,
]

NO_COMINGS = [
    None, True, 0, "", "0", (), (0,), (0, 0), {}, {"0": 0}, [], [1], [-1], [True], [False], [0, True],
    [0, False], [0, 2], [0, -1], [0, 1, 3], [0, 0, -1], [None], ["0"], [[0]], [(0,)], [0, None],
    [0, "0"], [0, [0]], [0, {}], [0] * 21, list(range(21)), [0] * 2000, [0, 10 ** 30],
]

NO_INTEGERS = [True, False, None, "1", "", [1], (1,), {}]
WRONG_GUESTS = [0, 21, -1, 10 ** 30, -(10 ** 30)] + NO_INTEGERS
MOST = 10 ** 12
WRONG_WEIGHTS = [0, -1, MOST + 1, 10 ** 30, -(10 ** 30)] + NO_INTEGERS


def all_seatings(guests):
    """All seatings, ascending."""
    return [list(order) for order in permutations(range(guests))]


def all_comings(guests):
    """All coming lists, ascending."""
    return [list(items) for items in product(*(range(guest + 1) for guest in range(guests)))]


def plain_tables(seating):
    """The tables as in the definition, by marking who has been seen."""
    tables = []
    seen = set()
    for guest in range(len(seating)):
        if guest not in seen:
            table = []
            while guest not in seen:
                seen.add(guest)
                table.append(guest)
                guest = seating[guest]
            tables.append(tuple(table))
    return tables


def plain_openers(seating):
    return [table[0] for table in plain_tables(seating)]


def plain_sizes(seating):
    """The sizes of the tables in the sequence of opening."""
    return [len(table) for table in plain_tables(seating)]


def table_with(seating, guest):
    """The table at which a guest sits."""
    return next(table for table in plain_tables(seating) if guest in table)


def subsets(items):
    """All ascending lists of some of the items, not empty."""
    return [list(chosen) for many in range(1, len(items) + 1) for chosen in combinations(items, many)]


def weigh(seatings, weight):
    return sum(plain_weight(seating, weight) for seating in seatings)


def plain_weight(seating, weight):
    return weight ** len(plain_tables(seating))


def plain_share(guests, weight, has_it):
    """The share, as a tuple, of the seatings for which has_it holds."""
    seatings = all_seatings(guests)
    return share_of([seating for seating in seatings if has_it(seating)], seatings, weight)


def share_of(some, seatings, weight):
    """The share, as a tuple, of some of the seatings among all of these."""
    return pair(Fraction(weigh(some, weight), weigh(seatings, weight)))


def rising_product(guests, weight):
    return prod(weight + guest for guest in range(guests))


def pair(value):
    return (value.numerator, value.denominator)
