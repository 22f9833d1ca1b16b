"""What the other files share: checks of plain arguments, products and exact fractions."""

from math import gcd

from newtables.errors import InvalidGuest, InvalidGuests, InvalidIndex, InvalidNumber, InvalidWeight

MOST_GUESTS = 20
MOST_WEIGHT = 10 ** 12


def is_whole(thing):
    """Whether an object is an integer and no boolean."""
    return type(thing) == int


def is_within(thing, least, most):
    """Whether an object is an integer from least to most."""
    return is_whole(thing) and least <= thing <= most


def is_order(thing):
    """Whether an object is a list of 1 to 20 items with 0, 1, .. once each."""
    if type(thing) != list or not 1 <= len(thing) <= MOST_GUESTS:
        return False
    # Only integers may be sorted: other items may have no order.
    if not all([is_whole(item) for item in thing]):
        return False
    return sorted(thing) == list(range(len(thing)))


def is_ascending(thing, least, most):
    """Whether an object is an ascending list of integers from least to most, not empty."""
    if type(thing) != list or len(thing) == 0:
        return False
    if not all([is_within(item, least, most) for item in thing]):
        return False
    return thing == sorted(set(thing))


def check_guests(guests):
    if not is_within(guests, 1, MOST_GUESTS):
        raise InvalidGuests("guests must be an integer from 1 to 20")


def check_weight(weight):
    if not is_within(weight, 1, MOST_WEIGHT):
        raise InvalidWeight("weight must be an integer from 1 to 10 ** 12")


def check_guest(guest, guests):
    if not is_within(guest, 0, guests - 1):
        raise InvalidGuest(f"a guest must be an integer from 0 to {guests - 1}")


def check_number(number, least, most):
    if not is_within(number, least, most):
        raise InvalidNumber(f"the number must be an integer from {least} to {most}")


def check_any_number(number):
    if not is_whole(number):
        raise InvalidNumber("the number must be an integer")


def check_index(index, many):
    if not is_within(index, 0, many - 1):
        raise InvalidIndex(f"an index must be an integer from 0 to below {many}")


def raised(base, times):
    """The product of so many times base."""
    total = 1
    for _ in range(times):
        total = total * base
    return total


def rising(weight, guests):
    """W(guests), for any weight and any number of guests from 0 on."""
    total = 1
    for guest in range(guests):
        total = total * (weight + guest)
    return total


def sums_by_tables(factors):
    """The product of all (steep * x + even), as the list of what stands with 1, x, x * x and so on."""
    sums = [1]
    for steep, even in factors:
        less = [part * even for part in sums] + [0]
        more = [0] + [part * steep for part in sums]
        sums = [one + other for one, other in zip(less, more)]
    return sums


def sum_at(factors, number):
    """The item with this number in the product of such factors, 0 beyond the last one."""
    sums = sums_by_tables(factors)
    return sums[number] if number < len(sums) else 0


def fraction(top, bottom):
    """The tuple of top and bottom without a common divisor."""
    common = gcd(top, bottom)
    return (top // common, bottom // common)
