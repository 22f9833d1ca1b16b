"""What is left if a guest leaves, and when it is as if this guest had never come."""

from newtables.basics import MOST_GUESTS, check_guest, check_guests, check_weight, fraction
from newtables.comings import check_coming, coming_of, seating_by
from newtables.errors import InvalidSeating, NoSeating
from newtables.seatings import check_seating


def without(seating, guest):
    """The seating of the others, the numbers above the guest lowered by 1."""
    check_seating(seating)
    check_guest(guest, len(seating))
    return seating_without(seating, guest)


def coming_without(coming, guest):
    """The coming list of the seating of a coming list without the guest."""
    check_coming(coming)
    check_guest(guest, len(coming))
    return coming_of(seating_without(seating_by(coming), guest))


def sits_alone(seating, guest):
    """Whether a guest sits alone."""
    check_seating(seating)
    check_guest(guest, len(seating))
    return seating[guest] == guest


def is_traceless(seating, guest):
    """Whether nobody who came later sat down beside this guest."""
    check_seating(seating)
    check_guest(guest, len(seating))
    return guest in traceless(seating)


def traceless(seating):
    """The ascending list of the guests beside whom nobody sat down who came later."""
    coming = coming_of(seating)
    return [guest for guest in range(len(coming)) if guest not in coming[guest + 1:]]


def traceless_share(guests, weight, guest):
    """The share in which a guest is traceless."""
    check_guests(guests)
    check_weight(weight)
    check_guest(guest, guests)
    return fraction(weight + guest, weight + guests - 1)


def traceless_counts(guests, weight):
    """The list of guests + 1 sums of weights, item l: of the seatings with l traceless guests."""
    check_guests(guests)
    check_weight(weight)
    sums = [1]
    for guest in range(guests):
        # A newcomer is traceless at first, and ends this for the guest beside whom it sits down.
        grown = [0] * (len(sums) + 1)
        for many, part in enumerate(sums):
            grown[many] += part * many
            grown[many + 1] += part * (weight + guest - many)
        sums = grown
    return sums


def joined(seating, mate):
    """The seating with one guest more, left of mate, or alone if mate is the number of guests."""
    check_seating(seating)
    guests = len(seating)
    if guests == MOST_GUESTS:
        raise InvalidSeating("a seating of 20 guests takes no newcomer")
    check_guest(mate, guests + 1)
    grown = seating + [guests]
    # For who sits alone both assignments tell the same.
    grown[guests] = grown[mate]
    grown[mate] = guests
    return grown


def seating_without(seating, guest):
    """The seating of the others, of a valid guest of a valid seating."""
    if len(seating) == 1:
        raise NoSeating("without the guest nobody is left")
    closed = list(seating)
    closed[seating.index(guest)] = seating[guest]
    closed.pop(guest)
    return [left - int(left > guest) for left in closed]
