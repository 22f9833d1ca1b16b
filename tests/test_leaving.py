"""[15]: what is left if a guest leaves, and who is traceless (R6)."""

import unittest
from fractions import Fraction

from newtables.comings import coming_of, seating_by
from newtables.errors import InvalidComing, InvalidGuest, InvalidGuests, InvalidSeating, InvalidWeight, NoSeating
from newtables.leaving import (
    coming_without, is_traceless, joined, sits_alone, traceless, traceless_counts, traceless_share, without,
)
from newtables.seatings import seating_of
from newtables.sizes import sizes_share
from tests.helpers import (
    MOST, NO_COMINGS, NO_INTEGERS, NO_LISTS_OF_GUESTS, WRONG_GUESTS, WRONG_WEIGHTS, all_comings, all_seatings, pair,
    plain_share, plain_sizes, plain_tables, rising_product, weigh,
)

RING = list(range(1, 20)) + [0]
ALONE = list(range(20))
UP_TO_FIVE = [one for guests in range(1, 6) for one in all_seatings(guests)]


def plain_without(seating, guest):
    """By the tables: the guest is taken out of its own, and the others are numbered anew."""
    numbers = {old: new for new, old in enumerate(other for other in range(len(seating)) if other != guest)}
    tables = [tuple(numbers[one] for one in table if one != guest) for table in plain_tables(seating)]
    turned = [table[table.index(min(table)):] + table[:table.index(min(table))] for table in tables if table]
    return seating_of(sorted(turned))


def plain_traceless(seating):
    coming = coming_of(seating)
    return [guest for guest in range(len(coming)) if coming[guest + 1:].count(guest) == 0]


class AllSeatingsTest(unittest.TestCase):

    def test_without(self):
        for seating in UP_TO_FIVE[1:]:
            for guest in range(len(seating)):
                with self.subTest(seating=seating, guest=guest):
                    self.assertEqual(without(seating, guest), plain_without(seating, guest))

    def test_coming_without(self):
        for guests in range(2, 6):
            for coming in all_comings(guests):
                for guest in range(guests):
                    with self.subTest(coming=coming, guest=guest):
                        expected = coming_of(plain_without(seating_by(coming), guest))
                        self.assertEqual(coming_without(coming, guest), expected)

    def test_alone(self):
        for seating in UP_TO_FIVE:
            for guest in range(len(seating)):
                self.assertIs(sits_alone(seating, guest), (guest,) in plain_tables(seating))

    def test_traceless(self):
        for seating in UP_TO_FIVE:
            with self.subTest(seating=seating):
                self.assertEqual(traceless(seating), plain_traceless(seating))
                for guest in range(len(seating)):
                    self.assertIs(is_traceless(seating, guest), guest in plain_traceless(seating))

    def test_as_if_a_traceless_guest_had_never_come(self):
        # R6
        for guests in range(2, 6):
            for coming in all_comings(guests):
                for guest in traceless(seating_by(coming)):
                    others = coming[:guest] + coming[guest + 1:]
                    lowered = [item - 1 if item > guest else item for item in others]
                    self.assertEqual(coming_without(coming, guest), lowered)

    def test_traceless_shares(self):
        for guests in range(1, 6):
            for weight in (1, 2, 5):
                for guest in range(guests):
                    expected = plain_share(guests, weight, lambda seating: guest in plain_traceless(seating))
                    self.assertEqual(traceless_share(guests, weight, guest), expected)

    def test_traceless_counts(self):
        for guests in range(1, 7):
            for weight in (1, 2, 5):
                by_number = [[] for _ in range(guests + 1)]
                for seating in all_seatings(guests):
                    by_number[len(plain_traceless(seating))].append(seating)
                self.assertEqual(traceless_counts(guests, weight), [weigh(some, weight) for some in by_number])

    def test_joined(self):
        for seating in UP_TO_FIVE:
            guests = len(seating)
            for mate in range(guests):
                with self.subTest(seating=seating, mate=mate):
                    expected = seating_by(coming_of(seating) + [mate])
                    self.assertEqual(joined(seating, mate), expected)
                    self.assertEqual(expected[mate], guests)
            self.assertEqual(joined(seating, guests), seating + [guests])

    def test_who_joined_may_leave(self):
        for seating in UP_TO_FIVE:
            for mate in range(len(seating) + 1):
                grown = joined(seating, mate)
                self.assertEqual(without(grown, len(seating)), seating)
                self.assertIs(is_traceless(grown, len(seating)), True)

    def test_shares_of_those_who_are_left(self):
        # R1: whoever leaves, the shares are those of fewer guests.
        for guest in range(5):
            shares = {}
            for seating in all_seatings(5):
                key = tuple(sorted(plain_sizes(without(seating, guest))))
                shares[key] = shares.get(key, 0) + Fraction(weigh([seating], 3), rising_product(5, 3))
            for sizes, share in shares.items():
                self.assertEqual(sizes_share(list(sizes), 3), pair(share))


class ByHandTest(unittest.TestCase):

    def test_four_guests(self):
        seating = [1, 3, 2, 0]
        self.assertEqual(without(seating, 0), [2, 1, 0])
        self.assertEqual(without(seating, 1), [2, 1, 0])
        self.assertEqual(without(seating, 2), [1, 2, 0])
        self.assertEqual(without(seating, 3), [1, 0, 2])
        self.assertEqual(traceless(seating), [2, 3])
        self.assertEqual([sits_alone(seating, guest) for guest in range(4)], [False, False, True, False])
        self.assertEqual(coming_without([0, 0, 2, 1], 0), [0, 1, 0])
        self.assertEqual(coming_without([0, 0, 2, 1], 3), [0, 0, 2])
        self.assertEqual(joined(seating, 2), [1, 3, 4, 0, 2])

    def test_one_guest(self):
        self.assertRaises(NoSeating, without, [0], 0)
        self.assertRaises(NoSeating, coming_without, [0], 0)
        self.assertIs(sits_alone([0], 0), True)
        self.assertEqual(traceless([0]), [0])
        self.assertEqual(traceless_share(1, MOST, 0), (1, 1))
        self.assertEqual(traceless_counts(1, MOST), [0, MOST])
        self.assertEqual(joined([0], 0), [1, 0])
        self.assertEqual(joined([0], 1), [0, 1])

    def test_two_guests(self):
        self.assertEqual(without([1, 0], 0), [0])
        self.assertEqual(without([0, 1], 1), [0])
        self.assertEqual(coming_without([0, 1], 0), [0])
        self.assertEqual(traceless([1, 0]), [1])
        self.assertEqual(traceless_counts(2, 3), [0, 3, 9])

    def test_twenty_guests(self):
        self.assertEqual(without(RING, 19), list(range(1, 19)) + [0])
        self.assertEqual(without(RING, 0), list(range(1, 19)) + [0])
        self.assertEqual(without(ALONE, 7), list(range(19)))
        self.assertEqual(traceless(ALONE), ALONE)
        self.assertEqual(traceless(RING), [19])
        self.assertEqual(coming_without(ALONE, 3), list(range(19)))
        for mate in (0, 19, 20, 21, -1, True):
            self.assertRaises(InvalidSeating, joined, RING, mate)
        self.assertEqual(joined(without(RING, 19), 18), RING)
        self.assertEqual(joined(list(range(19)), 19), ALONE)
        for weight in (1, 3, MOST):
            counts = traceless_counts(20, weight)
            self.assertEqual(len(counts), 21)
            self.assertEqual(sum(counts), rising_product(20, weight))
            self.assertEqual(counts[0], 0)
            self.assertEqual(counts[1], weight)
            shares = [Fraction(*traceless_share(20, weight, guest)) for guest in range(20)]
            mean = Fraction(sum(many * part for many, part in enumerate(counts)), rising_product(20, weight))
            self.assertEqual(sum(shares), mean)
        self.assertEqual(traceless_share(20, MOST, 0), pair(Fraction(MOST, MOST + 19)))
        self.assertEqual(traceless_share(20, 1, 19), (1, 1))


class WrongArgumentsTest(unittest.TestCase):

    def test_wrong_seatings(self):
        for seating in NO_LISTS_OF_GUESTS:
            for function in (without, sits_alone, is_traceless, joined):
                self.assertRaises(InvalidSeating, function, seating, 0)
            self.assertRaises(InvalidSeating, traceless, seating)
        for coming in NO_COMINGS:
            self.assertRaises(InvalidComing, coming_without, coming, 0)

    def test_wrong_guests(self):
        for guest in [3, -1, 10 ** 30, -(10 ** 30)] + NO_INTEGERS:
            for function in (without, sits_alone, is_traceless):
                self.assertRaises(InvalidGuest, function, [1, 2, 0], guest)
            self.assertRaises(InvalidGuest, coming_without, [0, 0, 2], guest)
            self.assertRaises(InvalidGuest, traceless_share, 3, 1, guest)
        for mate in [4, -1, 10 ** 30, -(10 ** 30)] + NO_INTEGERS:
            self.assertRaises(InvalidGuest, joined, [1, 2, 0], mate)
        # Ahead of NoSeating.
        self.assertRaises(InvalidGuest, without, [0], 1)
        self.assertRaises(InvalidGuest, coming_without, [0], 1)

    def test_wrong_numbers_of_guests_and_weights(self):
        for guests in WRONG_GUESTS:
            self.assertRaises(InvalidGuests, traceless_share, guests, 1, 0)
            self.assertRaises(InvalidGuests, traceless_counts, guests, 1)
        for weight in WRONG_WEIGHTS:
            self.assertRaises(InvalidWeight, traceless_share, 2, weight, 0)
            self.assertRaises(InvalidWeight, traceless_counts, 2, weight)


if __name__ == "__main__":
    unittest.main()
