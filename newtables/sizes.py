"""Seatings whose tables have told sizes, and how large tables are."""

from math import comb, factorial, perm

from newtables.basics import check_guest, check_guests, check_index, check_number, check_weight
from newtables.basics import MOST_GUESTS, fraction, is_ascending, is_within, is_whole, raised, rising
from newtables.errors import InvalidSizes, NoSeating
from newtables.seatings import seating_with, tables_of


def count_sizes(sizes):
    """How many seatings have tables of just these sizes."""
    check_sizes(sizes)
    return ways_with_sizes(sizes)


def sizes_share(sizes, weight):
    """The share of the seatings with tables of just these sizes."""
    check_sizes(sizes)
    check_weight(weight)
    return share_of_ways(ways_with_sizes(sizes), sizes, weight)


def nth_with_sizes(sizes, index):
    """The seating with this index, of those with these sizes, by ascending lists of tables."""
    check_sizes(sizes)
    check_index(index, ways_with_sizes(sizes))
    rest = list(sizes)
    free = list(range(sum(sizes)))
    tables = []
    while free:
        table, index = table_at(free, ways_behind_sizes(rest), index)
        rest.remove(len(table))
        free = [guest for guest in free if guest not in table]
        tables.append(table)
    return seating_with(tables)


def index_with_sizes(seating):
    """The index of a seating, of those with the same sizes, by ascending lists of tables."""
    tables = tables_of(seating)
    rest = [len(table) for table in tables]
    free = list(range(len(seating)))
    index = 0
    for table in tables:
        index += index_of_table(free, ways_behind_sizes(rest), table)
        rest.remove(len(table))
        free = [guest for guest in free if guest not in table]
    return index


def count_by_opening(sizes):
    """How many seatings have tables of these sizes in the sequence of their opening."""
    check_sizes(sizes)
    return ways_by_opening(sizes)


def opening_share(sizes, weight):
    """The share of the seatings with tables of these sizes in the sequence of their opening."""
    check_sizes(sizes)
    check_weight(weight)
    return share_of_ways(ways_by_opening(sizes), sizes, weight)


def size_share(guests, weight, size):
    """The share in which the table of one told guest has this size."""
    check_guests(guests)
    check_weight(weight)
    check_number(size, 1, guests)
    return fraction(weight_with_size(guests, weight, size), rising(weight, guests))


def mean_number(guests, weight, size):
    """The mean number of tables of this size."""
    check_guests(guests)
    check_weight(weight)
    check_number(size, 1, guests)
    # Added up over all guests, each table counts as often as it has guests.
    return fraction(guests * weight_with_size(guests, weight, size), size * rising(weight, guests))


def number_shares(guests, weight, size):
    """The list of the shares of just j tables of this size, j from 0 on."""
    check_guests(guests)
    check_weight(weight)
    check_number(size, 1, guests)
    others = [other for other in range(1, guests + 1) if other != size]
    rests = weights_with_allowed(guests, weight, others)
    shares = []
    for number in range(guests // size + 1):
        seated = number * size
        ways = comb(guests, seated) * ways_with_sizes([size] * number)
        top = ways * raised(weight, number) * rests[guests - seated]
        shares.append(fraction(top, rising(weight, guests)))
    return shares


def count_allowed(guests, allowed):
    """How many seatings have tables of allowed sizes alone."""
    check_guests(guests)
    check_allowed(allowed)
    return weights_with_allowed(guests, 1, allowed)[guests]


def allowed_share(guests, weight, allowed):
    """The share of the seatings with tables of allowed sizes alone."""
    check_guests(guests)
    check_weight(weight)
    check_allowed(allowed)
    return fraction(weights_with_allowed(guests, weight, allowed)[guests], rising(weight, guests))


def nth_allowed(guests, allowed, index):
    """The seating with this index, of those with allowed sizes, by ascending lists of tables."""
    check_guests(guests)
    check_allowed(allowed)
    ways = weights_with_allowed(guests, 1, allowed)
    check_index(index, ways[guests])
    free = list(range(guests))
    tables = []
    while free:
        behind = {size: ways[len(free) - size] for size in allowed if size <= len(free)}
        table, index = table_at(free, behind, index)
        free = [guest for guest in free if guest not in table]
        tables.append(table)
    return seating_with(tables)


def first_allowed(guests, weight, allowed):
    """The shares, of the seatings with allowed sizes, of each size for guest 0's table."""
    check_guests(guests)
    check_weight(weight)
    check_allowed(allowed)
    sums = weights_with_allowed(guests, weight, allowed)
    if sums[guests] == 0:
        raise NoSeating("no seating has tables of these sizes alone")
    shares = []
    for size in allowed:
        top = tables_weight(guests, weight, size) * sums[guests - size] if size <= guests else 0
        shares.append(fraction(top, sums[guests]))
    return shares


def given_open(sizes, guest):
    """The share, of the seatings with these sizes, in which a guest opens a table."""
    check_sizes(sizes)
    guests = sum(sizes)
    check_guest(guest, guests)
    # The guest is at each table as often as it has seats, and opens it if all
    # the guests below are among those who do not sit there.
    top = sum([size * comb(guests - size, guest) for size in sizes])
    return fraction(top, guests * comb(guests - 1, guest))


def given_together(sizes):
    """The share, of the seatings with these sizes, in which two told guests sit together."""
    check_sizes(sizes)
    guests = sum(sizes)
    if guests < 2:
        raise InvalidSizes("the sum of the sizes must be from 2 to 20")
    return fraction(sum([size * (size - 1) for size in sizes]), guests * (guests - 1))


def check_sizes(sizes):
    if not are_sizes(sizes):
        raise InvalidSizes("sizes must be a list of integers from 1 on, their sum from 1 to 20")


def are_sizes(thing):
    """Whether any object is a list of integers from 1 on with a sum from 1 to 20."""
    if type(thing) != list or not all([is_whole(item) and item >= 1 for item in thing]):
        return False
    return is_within(sum(thing), 1, MOST_GUESTS)


def check_allowed(allowed):
    if not is_ascending(allowed, 1, MOST_GUESTS):
        raise InvalidSizes("allowed must be an ascending list of integers from 1 to 20, not empty")


def ways_with_sizes(sizes):
    """How many seatings have these sizes (R3), also none."""
    bottom = 1
    for at, size in enumerate(sizes):
        # With a size's own number among its equals all m(i)! come together.
        bottom = bottom * size * sizes[:at + 1].count(size)
    return factorial(sum(sizes)) // bottom


def ways_by_opening(sizes):
    """How many seatings have these sizes in the sequence of opening (R3)."""
    rest = sum(sizes)
    top = factorial(rest)
    bottom = 1
    for size in sizes:
        bottom = bottom * rest
        rest -= size
    return top // bottom


def share_of_ways(ways, sizes, weight):
    """The share of so many seatings with these sizes."""
    return fraction(ways * raised(weight, len(sizes)), rising(weight, sum(sizes)))


def tables_weight(guests, weight, size):
    """What the tables of this size weigh at which one told guest can sit."""
    return weight * perm(guests - 1, size - 1)


def weight_with_size(guests, weight, size):
    """What the seatings weigh in which one told guest's table has this size."""
    return tables_weight(guests, weight, size) * rising(weight, guests - size)


def weights_with_allowed(guests, weight, allowed):
    """The list of what the seatings with allowed sizes weigh, for 0 guests, 1 guest and so on."""
    sums = [1]
    for many in range(1, guests + 1):
        parts = [tables_weight(many, weight, size) * sums[many - size] for size in allowed if size <= many]
        sums.append(sum(parts))
    return sums


def ways_behind_sizes(sizes):
    """For each size that the first table may have, how many ways there are for the others."""
    ways = {}
    for size in sizes:
        rest = list(sizes)
        rest.remove(size)
        ways[size] = ways_with_sizes(rest)
    return ways


def table_at(free, behind, index):
    """The first table of the seating with this index, and its index among those with this table.

    behind tells, for each size of the first table, how many ways there are for the others.
    """
    table = [free[0]]
    others = free[1:]
    # A table that ends comes ahead of all that begin with it.
    while index >= behind.get(len(table), 0):
        index -= behind.get(len(table), 0)
        at, index = divmod(index, ways_to_go_on(len(table), len(others), behind))
        table.append(others.pop(at))
    return (tuple(table), index)


def index_of_table(free, behind, table):
    """How many seatings of the free guests have a lesser first table."""
    others = free[1:]
    index = 0
    for length in range(1, len(table)):
        at = others.index(table[length])
        index += behind.get(length, 0) + at * ways_to_go_on(length, len(others), behind)
        others.pop(at)
    return index


def ways_to_go_on(length, many, behind):
    """How many ways there are if a told one of many guests sits next at a table of this length."""
    return sum([perm(many - 1, size - length - 1) * ways for size, ways in behind.items() if size > length])
