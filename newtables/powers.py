"""Powers of seatings, their periods, and the seatings of which they are powers."""

from math import gcd, lcm, perm

from newtables.basics import check_any_number, check_guests, check_number, is_whole, raised
from newtables.seatings import check_seating, is_seating, seating_with, tables_of
from newtables.sizes import check_sizes

MOST_PERIOD = 10 ** 9
MOST_ROOT = 10 ** 6


def power(seating, number):
    """The seating in which each one's left neighbour is the one who was so many steps to the left."""
    check_seating(seating)
    check_any_number(number)
    powered = [0] * len(seating)
    for table in tables_of(seating):
        for at, guest in enumerate(table):
            powered[guest] = table[(at + number) % len(table)]
    return powered


def power_sizes(sizes, number):
    """The sorted sizes of the tables of such a power."""
    check_sizes(sizes)
    check_any_number(number)
    parts = [[size // gcd(size, number)] * gcd(size, number) for size in sizes]
    return sorted([size for part in parts for size in part])


def period_of(seating):
    """The least number from 1 on whose power seats everybody alone."""
    period = 1
    for table in tables_of(seating):
        period = lcm(period, len(table))
    return period


def period_counts(guests):
    """The ascending list of the tuples of a period and how many seatings have it."""
    check_guests(guests)
    ways = [{1: 1}]
    for many in range(1, guests + 1):
        found = {}
        for size in range(1, many + 1):
            # The least guest sits at a table of this size.
            tables = perm(many - 1, size - 1)
            for former, part in ways[many - size].items():
                period = lcm(former, size)
                found[period] = found.get(period, 0) + part * tables
        ways.append(found)
    return sorted(ways[guests].items())


def least_guests(period):
    """The least number of guests that can have this period."""
    check_number(period, 1, MOST_PERIOD)
    if period == 1:
        return 1
    # A table for the power of each prime has least guests.
    return sum(prime_powers(period))


def count_roots(seating, number):
    """How many seatings have this seating as this power."""
    check_seating(seating)
    check_number(number, 1, MOST_ROOT)
    ways = 1
    for size, tables in tables_by_size(seating).items():
        ways = ways * ways_of_roots(size, len(tables), number)
    return ways


def a_root(seating, number):
    """A seating that has this seating as this power, or None."""
    if root_paper(seating, number) is not None:
        return None
    woven = []
    for size, tables in tables_by_size(seating).items():
        # All numbers of tables that go into one are multiples of the least one.
        least = joinable(size, len(tables), number)[0]
        for first in range(0, len(tables), least):
            woven.append(woven_table(tables[first:first + least], number))
    return seating_with(woven)


def shows_root(seating, number, thing):
    """Whether any object is a seating that has this seating as this power."""
    check_seating(seating)
    check_number(number, 1, MOST_ROOT)
    return is_seating(thing) and power(thing, number) == seating


def root_paper(seating, number):
    """None if the seating is such a power, else the least size whose tables alone are none."""
    check_seating(seating)
    check_number(number, 1, MOST_ROOT)
    sizes = sizes_without_root(seating, number)
    return min(sizes) if sizes else None


def shows_root_paper(seating, number, thing):
    """Whether any object is a size such that its tables alone are no such power."""
    check_seating(seating)
    check_number(number, 1, MOST_ROOT)
    return is_whole(thing) and thing in sizes_without_root(seating, number)


def prime_powers(number):
    """The powers of unlike primes whose product is a number from 2 on."""
    parts = []
    rest = number
    prime = 2
    while prime * prime <= rest:
        part = 1
        while rest % prime == 0:
            rest = rest // prime
            part = part * prime
        if part > 1:
            parts.append(part)
        prime += 1
    return parts + [rest] if rest > 1 else parts


def tables_by_size(seating):
    """The lists of the tables of each size."""
    tables = {}
    for table in tables_of(seating):
        tables.setdefault(len(table), []).append(table)
    return tables


def sizes_without_root(seating, number):
    """The sizes such that their tables alone are no such power."""
    tables = tables_by_size(seating)
    return [size for size in tables if ways_of_roots(size, len(tables[size]), number) == 0]


def joinable(size, many, number):
    """How many tables of this size, at most so many, one table can have as this power, ascending."""
    return [joined for joined in range(1, many + 1) if gcd(size * joined, number) == joined]


def ways_of_roots(size, many, number):
    """How many seatings have so many told tables of this size as this power."""
    ways = [1]
    for tables in range(1, many + 1):
        parts = []
        for joined in joinable(size, tables, number):
            # The first table goes into one with some others, in any sequence and turned in any way.
            choices = perm(tables - 1, joined - 1) * raised(size, joined - 1)
            parts.append(choices * ways[tables - joined])
        ways.append(sum(parts))
    return ways[many]


def woven_table(tables, number):
    """One table that has these tables of one size as this power, where so many are joinable."""
    length = len(tables) * len(tables[0])
    woven = [0] * length
    for start, table in enumerate(tables):
        for at, guest in enumerate(table):
            woven[(start + at * number) % length] = guest
    return woven
