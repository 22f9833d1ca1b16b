"""What seatings weigh, and how many tables they have."""

from newtables.basics import check_guests, check_number, check_weight, fraction, raised, rising, sums_by_tables
from newtables.seatings import tables_of


def total_weight(guests, weight):
    """W(guests): what all seatings weigh together."""
    check_guests(guests)
    check_weight(weight)
    return rising(weight, guests)


def seating_share(seating, weight):
    """The share of one seating."""
    tables = tables_of(seating)
    check_weight(weight)
    return fraction(raised(weight, len(tables)), rising(weight, len(seating)))


def tables_share(guests, weight, number):
    """The share of the seatings with just so many tables."""
    check_guests(guests)
    check_weight(weight)
    check_number(number, 0, guests)
    return fraction(weights_by_tables(guests, weight)[number], rising(weight, guests))


def mean_tables(guests, weight):
    """The mean number of tables."""
    check_guests(guests)
    check_weight(weight)
    # Each guest opens a table in the share weight / (weight + guest) (R2).
    top = 0
    bottom = 1
    for guest in range(guests):
        top = top * (weight + guest) + bottom * weight
        bottom = bottom * (weight + guest)
    return fraction(top, bottom)


def likeliest_tables(guests, weight):
    """The ascending list of the numbers of tables with the greatest share."""
    check_guests(guests)
    check_weight(weight)
    sums = weights_by_tables(guests, weight)
    greatest = max(sums)
    return [number for number, part in enumerate(sums) if part == greatest]


def best_weights(guests, number):
    """The least and the greatest weight at which number tables are likeliest, or None."""
    check_guests(guests)
    check_number(number, 1, guests)
    if number == guests:
        # This share rises with the weight without an end, or is always 1.
        return None
    # The share rises to its top and falls behind it, so the first weight
    # behind which it does not rise is the least one at the top.
    weight = 1
    while gain_behind(guests, number, weight) > 0:
        weight += 1
    if gain_behind(guests, number, weight) == 0:
        return (weight, weight + 1)
    return (weight, weight)


def weights_by_tables(guests, weight):
    """The list of guests + 1 sums of weights, item t: of the seatings with t tables."""
    # The newcomer opens one more table, or sits down beside one of the others.
    return sums_by_tables([(weight, guest) for guest in range(guests)])


def gain_behind(guests, number, weight):
    """Above 0 if tables_share rises from weight to weight + 1, 0 if it stays, else below 0."""
    # The quotient of both shares is (weight + 1) ** number
    # over weight ** (number - 1) * (weight + guests).
    return raised(weight + 1, number) - raised(weight, number - 1) * (weight + guests)
