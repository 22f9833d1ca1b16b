"""How tables of told sizes grow if more guests come."""

from math import comb, perm

from newtables.basics import check_number, check_weight, fraction, is_whole, rising
from newtables.errors import InvalidSizes
from newtables.sizes import check_sizes

MOST_LATER = 60
MOST_MORE = 40


def grow_share(sizes, weight, later):
    """The share in which the tables have so many guests later, and so many sit at new tables."""
    check_sizes(sizes)
    check_weight(weight)
    check_later(later, sizes)
    more = sum(later) - sum(sizes)
    fresh = later[-1]
    # All sequences in which the newcomers find their tables weigh the same.
    top = perm(more, more - fresh) * rising(weight, fresh)
    for size, now in zip(sizes, later):
        top = top * comb(now - 1, size - 1)
    return fraction(top, rising(weight + sum(sizes), more))


def mean_later(sizes, weight, number):
    """The list of the mean numbers of guests at these tables when so many more have come."""
    check_sizes(sizes)
    check_weight(weight)
    check_number(number, 0, MOST_MORE)
    # A table's mean part of all guests and the weight stays as it is.
    now = sum(sizes) + weight
    return [fraction(size * (now + number), now) for size in sizes]


def new_shares(sizes, weight, number):
    """The list of the shares in which r of so many newcomers sit at new tables, r from 0 on."""
    check_sizes(sizes)
    check_weight(weight)
    check_number(number, 0, MOST_MORE)
    guests = sum(sizes)
    total = rising(weight + guests, number)
    shares = []
    for fresh in range(number + 1):
        ways = comb(number, fresh) * rising(guests, number - fresh)
        shares.append(fraction(ways * rising(weight, fresh), total))
    return shares


def check_later(later, sizes):
    if not are_later(later, sizes):
        raise InvalidSizes("later must be a list of one more size than sizes, none below it, their sum at most 60")


def are_later(thing, sizes):
    """Whether any object is a list of what these sizes may be later, and of those at new tables."""
    if type(thing) != list or len(thing) != len(sizes) + 1:
        return False
    if not all([is_whole(item) for item in thing]) or sum(thing) > MOST_LATER:
        return False
    return all([now >= size for now, size in zip(thing, sizes + [0])])
