"""What lies between two seatings: exchanges of left neighbours, paths and chains."""

from math import comb, factorial

from newtables.basics import check_guest, check_guests, check_number, is_whole, is_within, raised
from newtables.errors import InvalidDistances, InvalidSeating
from newtables.seatings import check_seating, is_seating, tables_of
from newtables.weights import weights_by_tables

MOST_DISTANCES = 20


def exchanged(seating, guest, mate):
    """The seating with the left neighbours of two guests exchanged."""
    check_seating(seating)
    check_guest(guest, len(seating))
    check_guest(mate, len(seating))
    return seating_behind(seating, [(guest, mate)])


def distance(seating, other):
    """The least number of exchanges that lead from one seating to the other (R7)."""
    return sum([size - 1 for size in ring_sizes(seating, other)])


def count_paths(seating, other):
    """How many sequences of so few exchanges lead from one seating to the other."""
    sizes = ring_sizes(seating, other)
    # The exchanges part each ring bit by bit; those of unlike rings may mix.
    paths = factorial(sum([size - 1 for size in sizes]))
    for size in sizes:
        paths = paths // factorial(size - 1) * raised(size, size - 2)
    return paths


def a_path(seating, other):
    """The list of the tuples of guests whose exchanges lead from one seating to the other."""
    check_seating(seating)
    check_other(other, seating)
    now = list(seating)
    path = []
    for guest, left in enumerate(other):
        # The guests below have their left neighbours already, so mate is not below guest.
        mate = now.index(left)
        if mate != guest:
            path.append((guest, mate))
            now[mate] = now[guest]
            now[guest] = left
    return path


def shows_path(seating, other, thing):
    """Whether any object is a list of so few exchanges that lead from one seating to the other."""
    steps = distance(seating, other)
    if type(thing) != list or len(thing) != steps:
        return False
    if not all([is_exchange(item, len(seating)) for item in thing]):
        return False
    return seating_behind(seating, thing) == other


def is_between(seating, other, third):
    """Whether the third seating lies between the two others."""
    steps = distance(seating, other)
    return distance(seating, third) + distance(third, other) == steps


def count_between(seating, other):
    """How many seatings lie between two."""
    return sum(between_at(seating, other))


def between_at(seating, other):
    """The list of how many of these are at distance 0, 1, .. from the first one."""
    ways = [1]
    for size in ring_sizes(seating, other):
        # What lies between parts each ring on its own, without crossings.
        parts = [comb(size, step) * comb(size, step + 1) // size for step in range(size)]
        ways = product_of_sums(ways, parts)
    return ways


def a_between(seating, other, number):
    """A seating between two, at this distance from the first one."""
    path = a_path(seating, other)
    check_number(number, 0, len(path))
    return seating_behind(seating, path[:number])


def count_chains(seating, other, distances):
    """How many lists of seatings lead from one to the other by these distances."""
    sizes = ring_sizes(seating, other)
    check_distances(distances)
    rests = tuple([size - 1 for size in sizes])
    if sum(distances) != sum(rests):
        return 0
    # A ring of each size has, for each list of its own distances, as many
    # chains as the product of comb(size, its distance) over size.
    ways = {rests: 1}
    for steps in distances:
        ways = ways_behind_steps(ways, sizes, steps)
    chains = sum(ways.values())
    for size in sizes:
        chains = chains // size
    return chains


def count_at(guests, number):
    """How many seatings are at this distance from one told seating."""
    check_guests(guests)
    check_number(number, 0, guests - 1)
    return weights_by_tables(guests, 1)[guests - number]


def check_other(other, seating):
    if not is_seating(other) or len(other) != len(seating):
        raise InvalidSeating("the other seating must be one of as many guests")


def check_distances(distances):
    if not are_distances(distances):
        raise InvalidDistances("distances must be a list of 0 to 20 integers from 1 on")


def are_distances(thing):
    """Whether any object is a list of 0 to 20 integers from 1 on."""
    if type(thing) != list or len(thing) > MOST_DISTANCES:
        return False
    return all([is_whole(item) and item >= 1 for item in thing])


def is_exchange(thing, guests):
    """Whether any object is an ascending tuple of two guests."""
    if type(thing) != tuple or len(thing) != 2:
        return False
    return all([is_within(guest, 0, guests - 1) for guest in thing]) and thing[0] < thing[1]


def seating_behind(seating, exchanges):
    """The seating behind these exchanges, a new list also if there are none."""
    now = list(seating)
    for guest, mate in exchanges:
        now[guest], now[mate] = now[mate], now[guest]
    return now


def ring_sizes(seating, other):
    """The sizes of the rings that lead from each guest to the one with the wanted left neighbour (R7)."""
    check_seating(seating)
    check_other(other, seating)
    holders = [seating.index(left) for left in other]
    return [len(ring) for ring in tables_of(holders)]


def product_of_sums(first, second):
    """The product of two sums, as lists of what stands with 1, x, x * x and so on."""
    sums = [0] * (len(first) + len(second) - 1)
    for at, one in enumerate(first):
        for step, part in enumerate(second):
            sums[at + step] += one * part
    return sums


def ways_behind_steps(ways, sizes, steps):
    """The ways behind one more distance, shared out among the rings, by what is left for each of them."""
    spread = {(rests, steps): part for rests, part in ways.items()}
    for at, size in enumerate(sizes):
        further = {}
        for (rests, left), part in spread.items():
            for taken in range(min(rests[at], left) + 1):
                key = (rests[:at] + (rests[at] - taken,) + rests[at + 1:], left - taken)
                further[key] = further.get(key, 0) + part * comb(size, taken)
        spread = further
    return {rests: part for (rests, left), part in spread.items() if left == 0}
