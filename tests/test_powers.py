"""[16]: powers of seatings, periods and roots."""

import unittest
from itertools import combinations_with_replacement
from math import factorial, lcm

from newtables.errors import (
    HallError, InvalidGuests, InvalidNumber, InvalidSeating, InvalidSizes,
)
from newtables.powers import (
    a_root, count_roots, least_guests, period_counts, period_of, power, power_sizes, root_paper, shows_root,
    shows_root_paper,
)
from newtables.seatings import mirrored, steps_left
from tests.helpers import (
    NO_INTEGERS, NO_LISTS_OF_GUESTS, WRONG_GUESTS, all_seatings, plain_sizes, table_with,
)

RING = list(range(1, 20)) + [0]
ALONE = list(range(20))
TEN_TABLES = [guest ^ 1 for guest in range(20)]
THIRTY_DIGITS = 123456789012345678901234567890
NUMBERS = [1, 2, 3, 4, 5, 6, 7, 8, 12, 30, 60, 10 ** 6]
WRONG_NUMBERS = [0, -1, 10 ** 30, -(10 ** 30)] + NO_INTEGERS


def plain_power(seating, number):
    """By going so many steps, for numbers from 0 on."""
    powered = list(range(len(seating)))
    for _ in range(number):
        powered = [seating[guest] for guest in powered]
    return powered


def plain_period(seating):
    period = 1
    while plain_power(seating, period) != sorted(seating):
        period += 1
    return period


def roots_by_power(guests, number):
    """For each seating the list of those that have it as this power."""
    roots = {tuple(seating): [] for seating in all_seatings(guests)}
    for seating in all_seatings(guests):
        # A number of steps and its rest by the period lead to the same guest.
        roots[tuple(plain_power(seating, number % plain_period(seating)))].append(seating)
    return roots


class AllSeatingsTest(unittest.TestCase):

    def test_powers(self):
        for guests in range(1, 6):
            for seating in all_seatings(guests):
                for number in range(-7, 8):
                    with self.subTest(seating=seating, number=number):
                        walked = plain_power(seating if number >= 0 else mirrored(seating), abs(number))
                        self.assertEqual(power(seating, number), walked)
                        steps = [steps_left(seating, guest, number) for guest in range(guests)]
                        self.assertEqual(power(seating, number), steps)
                        self.assertEqual(power_sizes(plain_sizes(seating), number), sorted(plain_sizes(walked)))

    def test_periods(self):
        for guests in range(1, 7):
            periods = [plain_period(seating) for seating in all_seatings(guests)]
            self.assertEqual([period_of(seating) for seating in all_seatings(guests)], periods)
            expected = [(period, periods.count(period)) for period in sorted(set(periods))]
            self.assertEqual(period_counts(guests), expected)

    def test_roots(self):
        for guests in range(1, 6):
            for number in NUMBERS:
                roots = roots_by_power(guests, number)
                for seating in all_seatings(guests):
                    with self.subTest(seating=seating, number=number):
                        found = roots[tuple(seating)]
                        self.assertEqual(count_roots(seating, number), len(found))
                        root = a_root(seating, number)
                        self.assertTrue(root in found if found else root is None)
                        shown = [one for one in all_seatings(guests) if shows_root(seating, number, one)]
                        self.assertEqual(shown, found)

    def test_papers(self):
        for guests in range(1, 7):
            for number in (1, 2, 3, 4, 6, 12):
                roots = [roots_by_power(many, number) for many in range(1, guests + 1)]
                for seating in all_seatings(guests)[::1 if guests < 6 else 7]:
                    with self.subTest(seating=seating, number=number):
                        without = [size for size in sorted(set(plain_sizes(seating)))
                                   if not self.roots_of_size(roots, seating, size)]
                        self.assertEqual(root_paper(seating, number), without[0] if without else None)
                        self.assertIs(root_paper(seating, number) is None, roots[-1][tuple(seating)] != [])
                        shown = [size for size in range(-1, 9) if shows_root_paper(seating, number, size)]
                        self.assertEqual(shown, without)

    def roots_of_size(self, roots, seating, size):
        """The roots of the seating that the tables of one size are alone."""
        there = [guest for guest in range(len(seating)) if len(table_with(seating, guest)) == size]
        alone = [there.index(seating[guest]) for guest in there]
        return roots[len(there) - 1][tuple(alone)]


class PowersTest(unittest.TestCase):

    def test_great_numbers(self):
        for seating in (RING, TEN_TABLES, [1, 2, 0, 4, 3, 6, 7, 8, 9, 5, 11, 12, 13, 14, 15, 16, 10, 18, 17, 19]):
            for number in (THIRTY_DIGITS, -THIRTY_DIGITS, 10 ** 30 - 1, 0, 1, -1):
                expected = plain_power(seating, number % period_of(seating))
                self.assertEqual(power(seating, number), expected)
                self.assertEqual(power_sizes(plain_sizes(seating), number), sorted(plain_sizes(expected)))
        self.assertEqual(power(RING, 0), ALONE)
        self.assertEqual(power(RING, 1), RING)
        self.assertEqual(power(RING, -1), mirrored(RING))
        self.assertEqual(power([0], THIRTY_DIGITS), [0])

    def test_sizes(self):
        self.assertEqual(power_sizes([6, 4, 1], 4), [1, 1, 1, 1, 1, 3, 3])
        self.assertEqual(power_sizes([6, 4, 1], -4), [1, 1, 1, 1, 1, 3, 3])
        self.assertEqual(power_sizes([20], 0), [1] * 20)
        self.assertEqual(power_sizes([20], 7), [20])
        self.assertEqual(power_sizes([5, 2, 3], 1), [2, 3, 5])
        self.assertEqual(power_sizes([20], 10 ** 30), [1] * 20)
        self.assertEqual(power_sizes([18, 2], 10 ** 30), [1, 1, 9, 9])


class PeriodsTest(unittest.TestCase):

    def test_twenty_guests(self):
        counts = period_counts(20)
        self.assertEqual(sum(many for _, many in counts), factorial(20))
        self.assertEqual(counts, sorted(counts))
        self.assertEqual(counts[0], (1, 1))
        self.assertEqual(counts[-1][0], 420)
        self.assertEqual(dict(counts)[19], factorial(20) // 19)
        self.assertEqual(period_of(RING), 20)
        self.assertEqual(period_of(ALONE), 1)
        self.assertEqual(period_of(TEN_TABLES), 2)
        # 3 + 4 + 5 + 7 are 19 guests.
        ends = [2, 6, 11, 18, 19]
        seating = [guest + 1 for guest in range(20)]
        for first, last in zip([0] + [end + 1 for end in ends], ends):
            seating[last] = first
        self.assertEqual(period_of(seating), 420)

    def test_least_guests(self):
        least = {}
        for guests in range(1, 21):
            for period, _ in period_counts(guests):
                least.setdefault(period, guests)
        for period in range(1, 421):
            if period in least:
                self.assertEqual(least_guests(period), least[period])
            else:
                self.assertGreater(least_guests(period), 20)

    def test_least_guests_of_great_periods(self):
        self.assertEqual(least_guests(1), 1)
        self.assertEqual(least_guests(2), 2)
        self.assertEqual(least_guests(10 ** 9), 2 ** 9 + 5 ** 9)
        self.assertEqual(least_guests(999999937), 999999937)
        self.assertEqual(least_guests(2 ** 29), 2 ** 29)
        self.assertEqual(least_guests(31607 ** 2), 31607 ** 2)
        self.assertEqual(least_guests(31607 * 31601), 31607 + 31601)
        self.assertEqual(least_guests(223092870), 2 + 3 + 5 + 7 + 11 + 13 + 17 + 19 + 23)
        self.assertEqual(least_guests(2 * 3 * 166666667 // 166666667), 5)

    def test_least_guests_by_trying(self):
        # The sizes of tables that have the period together.
        for period in range(2, 31):
            guests = next(guests for guests in range(1, 40) if self.can_have(guests, period))
            self.assertEqual(least_guests(period), guests)

    def can_have(self, guests, period):
        parts = [size for size in range(1, guests + 1) if period % size == 0]
        return any(sum(some) == guests and lcm(*some) == period
                   for many in range(1, 4) for some in combinations_with_replacement(parts, many))


class RootsTest(unittest.TestCase):

    def test_first_power(self):
        for seating in (RING, TEN_TABLES, ALONE, [0], [1, 3, 2, 0]):
            self.assertEqual(count_roots(seating, 1), 1)
            self.assertEqual(a_root(seating, 1), seating)
            self.assertIsNone(root_paper(seating, 1))
            self.assertIs(shows_root(seating, 1, seating), True)

    def test_one_guest(self):
        for number in (1, 2, 10 ** 6):
            self.assertEqual(count_roots([0], number), 1)
            self.assertEqual(a_root([0], number), [0])
            self.assertIs(shows_root([0], number, [0]), True)
            self.assertIs(shows_root_paper([0], number, 1), False)

    def test_square_roots(self):
        # Seatings that are their own mirror: by the number of tables of two.
        self.assertEqual(count_roots(ALONE, 2), sum(factorial(20) // (factorial(20 - 2 * pairs) * factorial(pairs)
                                                                      * 2 ** pairs) for pairs in range(11)))
        self.assertEqual(count_roots(RING, 2), 0)
        self.assertIsNone(a_root(RING, 2))
        self.assertEqual(root_paper(RING, 2), 20)
        self.assertIs(shows_root_paper(RING, 2, 20), True)
        self.assertEqual(count_roots(RING, 3), 1)
        # Ten tables of two: each two of them are woven in two ways, and no table is alone.
        self.assertEqual(count_roots(TEN_TABLES, 2), 945 * 2 ** 5)

    def test_roots_of_twenty_guests(self):
        for seating in (ALONE, TEN_TABLES, RING, power(RING, 4), power(RING, 5), power(RING, 10),
                        [1, 2, 0] + [4, 5, 3] + [7, 8, 6] + [10, 9, 12, 11] + list(range(13, 20))):
            for number in (2, 3, 4, 5, 6, 16, 60, 720720, 999983, 10 ** 6):
                with self.subTest(seating=seating, number=number):
                    root = a_root(seating, number)
                    paper = root_paper(seating, number)
                    self.assertIs(root is None, count_roots(seating, number) == 0)
                    self.assertIs(root is None, paper is not None)
                    if root is None:
                        self.assertIs(shows_root_paper(seating, number, paper), True)
                    else:
                        self.assertEqual(plain_power(root, number % period_of(root)), seating)
                        self.assertIs(shows_root(seating, number, root), True)
                        self.assertEqual(a_root(list(seating), number), root)

    def test_several_papers(self):
        seating = [1, 0, 3, 4, 5, 2, 6]
        self.assertEqual(root_paper(seating, 2), 2)
        self.assertEqual([size for size in range(8) if shows_root_paper(seating, 2, size)], [2, 4])
        self.assertIsNone(root_paper(seating, 3))

    def test_any_object(self):
        things = NO_LISTS_OF_GUESTS + [ALONE, RING, [0], [0, 1], [1, 0], [2, 1, 0], HallError("root"), 1, 3, "1"]
        for thing in things:
            with self.subTest(thing=thing):
                self.assertIs(shows_root([1, 2, 0], 2, thing), False)
                self.assertIs(shows_root([1, 0], 2, thing), False)
                # A size, but for no kind of equal object: True equals 1, and 2 is one.
                self.assertIs(shows_root_paper([1, 0, 2], 2, thing), False)
        self.assertIs(shows_root([1, 2, 0], 2, [2, 0, 1]), True)
        self.assertIs(shows_root([1, 2, 0], 2, (2, 0, 1)), False)
        self.assertIs(shows_root([0, 1], 2, [True, 0]), False)
        self.assertIs(shows_root([0, 1], 2, [1, 0]), True)
        self.assertIs(shows_root_paper([1, 0], 2, 2), True)
        for thing in ([2], (2,), "2", True, None, {"2": 2}, 10 ** 30, -2):
            self.assertIs(shows_root_paper([1, 0], 2, thing), False)
        self.assertIs(shows_root([1, 2, 0], 2, HallError), False)


class WrongArgumentsTest(unittest.TestCase):

    def test_wrong_seatings(self):
        for seating in NO_LISTS_OF_GUESTS:
            self.assertRaises(InvalidSeating, period_of, seating)
            for function in (power, count_roots, a_root, root_paper):
                self.assertRaises(InvalidSeating, function, seating, 1)
            for function in (shows_root, shows_root_paper):
                self.assertRaises(InvalidSeating, function, seating, 1, [0])

    def test_wrong_numbers(self):
        for number in NO_INTEGERS:
            self.assertRaises(InvalidNumber, power, [0], number)
            self.assertRaises(InvalidNumber, power_sizes, [1], number)
        for number in WRONG_NUMBERS + [10 ** 6 + 1]:
            for function in (count_roots, a_root, root_paper):
                self.assertRaises(InvalidNumber, function, [1, 0], number)
            for function in (shows_root, shows_root_paper):
                self.assertRaises(InvalidNumber, function, [1, 0], number, None)
        for period in WRONG_NUMBERS + [10 ** 9 + 1]:
            self.assertRaises(InvalidNumber, least_guests, period)

    def test_wrong_sizes_and_guests(self):
        for sizes in (None, True, 1, (1,), [], [0], [True], [21], [20, 1], ["1"], {}, "1", [[1]], [-1, 2], [1] * 21):
            self.assertRaises(InvalidSizes, power_sizes, sizes, 1)
        for guests in WRONG_GUESTS:
            self.assertRaises(InvalidGuests, period_counts, guests)


if __name__ == "__main__":
    unittest.main()
