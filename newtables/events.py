"""The shares of what may occur: who opens, who sits together, who is how many steps away."""

from math import factorial

from newtables.basics import check_any_number, check_guest, check_guests, check_number, check_weight
from newtables.basics import fraction, is_ascending, raised, rising, sum_at
from newtables.errors import InvalidGroup, InvalidGroups
from newtables.sizes import weight_with_size
from newtables.weights import weights_by_tables


def opener_share(guests, weight, guest):
    """The share in which a guest opens a table."""
    check_guests(guests)
    check_weight(weight)
    check_guest(guest, guests)
    return fraction(weight, weight + guest)


def count_openers(guests, group):
    """How many seatings there are in which just these guests open."""
    check_guests(guests)
    check_openers(group, guests)
    return ways_of_openers(guests, group)


def openers_share(guests, weight, group):
    """The share in which just these guests open."""
    check_guests(guests)
    check_weight(weight)
    check_openers(group, guests)
    return fraction(ways_of_openers(guests, group) * raised(weight, len(group)), rising(weight, guests))


def last_opener_share(guests, weight, guest):
    """The share in which a guest is the last one who opens."""
    check_guests(guests)
    check_weight(weight)
    check_guest(guest, guests)
    top = weight
    bottom = weight + guest
    for later in range(guest + 1, guests):
        top = top * later
        bottom = bottom * (weight + later)
    return fraction(top, bottom)


def rank_share(guests, weight, rank, guest):
    """The share in which a guest is the opener with this rank among the openers."""
    check_guests(guests)
    check_weight(weight)
    check_number(rank, 0, guests - 1)
    check_guest(guest, guests)
    # As many tables as rank tells are there when the guest comes and opens one.
    ahead = sum_at([(weight, former) for former in range(guest)], rank)
    return fraction(ahead * weight, rising(weight, guest + 1))


def together_share(guests, weight, group):
    """The share in which a group sits at one table."""
    check_guests(guests)
    check_weight(weight)
    check_group(group, guests)
    return fraction(table_weight(weight, group), rising(weight, len(group)))


def just_share(guests, weight, group):
    """The share in which a group is a table."""
    check_guests(guests)
    check_weight(weight)
    check_group(group, guests)
    top = table_weight(weight, group) * rising(weight, guests - len(group))
    return fraction(top, rising(weight, guests))


def tables_shares(guests, weight, group):
    """The list of the shares in which a group sits at just j tables, j from 0 on."""
    check_guests(guests)
    check_weight(weight)
    check_group(group, guests)
    total = rising(weight, len(group))
    return [fraction(part, total) for part in weights_by_tables(len(group), weight)]


def split_share(guests, weight, groups):
    """The share in which each group is together, and no two are at one table."""
    check_guests(guests)
    check_weight(weight)
    check_groups(groups, guests)
    # Only the guests of the groups count (R1), and the groups are their tables.
    top = 1
    for group in groups:
        top = top * table_weight(weight, group)
    return fraction(top, rising(weight, sum([len(group) for group in groups])))


def given_tables(guests, number, group):
    """The share, of the seatings with just number tables, in which a group is together."""
    check_guests(guests)
    check_number(number, 1, guests)
    check_group(group, guests)
    # As no share depends on the names, the group may come ahead of the others.
    others = [(1, guest) for guest in range(len(group), guests)]
    top = factorial(len(group) - 1) * sum_at([(1, 0)] + others, number)
    return fraction(top, weights_by_tables(guests, 1)[number])


def home_share(guests, weight, steps):
    """The share in which so many steps to the left lead a told guest back to itself."""
    check_guests(guests)
    check_weight(weight)
    check_any_number(steps)
    return fraction(home_weight(guests, weight, steps), rising(weight, guests))


def other_share(guests, weight, steps):
    """The share in which so many steps to the left lead from one told guest to another one."""
    check_guests(guests)
    check_weight(weight)
    check_any_number(steps)
    if guests == 1:
        return (0, 1)
    # All the other guests have the same share in what does not lead back.
    total = rising(weight, guests)
    return fraction(total - home_weight(guests, weight, steps), total * (guests - 1))


def check_group(group, guests):
    if not is_ascending(group, 0, guests - 1):
        raise InvalidGroup("a group must be an ascending list of guests, not empty")


def check_openers(group, guests):
    check_group(group, guests)
    if group[0] != 0:
        raise InvalidGroup("a group of openers must begin with 0")


def check_groups(groups, guests):
    if not are_groups(groups, guests):
        raise InvalidGroups("groups must be a list of groups without a common guest, not empty")


def are_groups(thing, guests):
    """Whether any object is a list of groups without a common guest, not empty."""
    if type(thing) != list or not all([is_ascending(group, 0, guests - 1) for group in thing]):
        return False
    members = [guest for group in thing for guest in group]
    return len(thing) > 0 and len(set(members)) == len(members)


def ways_of_openers(guests, group):
    """How many seatings have just these openers: the others choose among all guests below."""
    ways = 1
    for guest in range(guests):
        if guest not in group:
            ways = ways * guest
    return ways


def table_weight(weight, group):
    """What all tables of just this group weigh."""
    return weight * factorial(len(group) - 1)


def home_weight(guests, weight, steps):
    """What the seatings weigh in which so many steps lead a told guest back to itself."""
    sizes = [size for size in range(1, guests + 1) if steps % size == 0]
    return sum([weight_with_size(guests, weight, size) for size in sizes])
