"""[10]: seatings whose tables have told or allowed sizes, and how large tables are."""

import unittest
from fractions import Fraction
from math import comb, factorial

from newtables.errors import (
    HallError, InvalidGuest, InvalidGuests, InvalidIndex, InvalidNumber, InvalidSeating, InvalidSizes, InvalidWeight,
    NoSeating,
)
from newtables.sizes import (
    allowed_share, count_allowed, count_by_opening, count_sizes, first_allowed, given_open, given_together,
    index_with_sizes, mean_number, nth_allowed, nth_with_sizes, number_shares, opening_share, size_share, sizes_share,
)
from tests.helpers import (
    MOST, NO_INTEGERS, NO_LISTS_OF_GUESTS, WRONG_GUESTS, WRONG_WEIGHTS, all_seatings, pair, plain_openers, plain_share,
    plain_sizes, plain_tables, plain_weight, rising_product, share_of, subsets, table_with, weigh,
)

WRONG_INDICES = [-1, 10 ** 30, -(10 ** 30)] + NO_INTEGERS
ALONE = list(range(20))

NO_SIZES = [
    None, True, 1, "", "1", (), (1,), (1, 2), {}, {"1": 1}, HallError("1"), [], [0], [-1], [21], [True], [False],
    [1, 0], [1, True], [2, -1], [1, None], [1, "1"], ["1"], [[1]], [(1,)], [{}], [10 ** 30], [1] * 21, [20, 1],
    [10, 11], [1] * 2000, [10 ** 30, -(10 ** 30), 1],
]

NO_ALLOWED = [
    None, True, 1, "", "1", (), (1,), (1, 2), {}, {"1": 1}, HallError("1"), [], [0], [-1], [21], [True], [False],
    [0, 1], [1, 1], [2, 1], [1, True], [1, 3, 2], [20, 21], [1, None], [1, "2"], ["1"], [[1]], [(1,)], [{}],
    [10 ** 30], [1] * 2000,
]


def compositions(guests):
    """All lists of sizes with this sum, in any sequence."""
    if guests == 0:
        return [[]]
    return [[first] + rest for first in range(1, guests + 1) for rest in compositions(guests - first)]


def by_lists_of_tables(seatings):
    return sorted(seatings, key=plain_tables)


def with_sizes(sizes):
    return [seating for seating in all_seatings(sum(sizes)) if sorted(plain_sizes(seating)) == sorted(sizes)]


def with_allowed(guests, allowed):
    return [seating for seating in all_seatings(guests) if set(plain_sizes(seating)) <= set(allowed)]


class ToldSizesTest(unittest.TestCase):

    def test_counts_by_hand(self):
        self.assertEqual(count_sizes([1]), 1)
        self.assertEqual(count_sizes([2, 2]), 3)
        self.assertEqual(count_sizes([3, 1]), 8)
        self.assertEqual(count_sizes([1, 1, 2]), 6)
        self.assertEqual(count_sizes([20]), factorial(19))
        self.assertEqual(count_sizes([1] * 20), 1)
        self.assertEqual(count_sizes([2] * 10), 654729075)

    def test_counts_and_shares_of_all(self):
        for guests in range(1, 7):
            for sizes in compositions(guests):
                seatings = with_sizes(sizes)
                self.assertEqual(count_sizes(sizes), len(seatings))
                for weight in (1, 2, 5):
                    expected = share_of(seatings, all_seatings(guests), weight)
                    self.assertEqual(sizes_share(sizes, weight), expected)

    def test_share_edges(self):
        self.assertEqual(sizes_share([1], MOST), (1, 1))
        self.assertEqual(sizes_share([20], 1), (1, 20))
        self.assertEqual(sizes_share([1] * 20, MOST), pair(Fraction(MOST ** 20, rising_product(20, MOST))))

    def test_wrong_sizes(self):
        for thing in NO_SIZES:
            with self.subTest(thing=thing):
                self.assertRaises(InvalidSizes, count_sizes, thing)
                self.assertRaises(InvalidSizes, sizes_share, thing, 0)
                self.assertRaises(InvalidSizes, nth_with_sizes, thing, -1)
                self.assertRaises(InvalidSizes, count_by_opening, thing)
                self.assertRaises(InvalidSizes, opening_share, thing, 0)
                self.assertRaises(InvalidSizes, given_open, thing, -1)
                self.assertRaises(InvalidSizes, given_together, thing)

    def test_wrong_weights(self):
        for weight in WRONG_WEIGHTS:
            with self.subTest(weight=weight):
                self.assertRaises(InvalidWeight, sizes_share, [1, 2], weight)
                self.assertRaises(InvalidWeight, opening_share, [1, 2], weight)


class ToldSizesInSequenceTest(unittest.TestCase):

    def test_by_hand(self):
        # The lists of tables [(0,), (1, 2)], [(0, 1), (2,)], [(0, 2), (1,)].
        self.assertEqual([nth_with_sizes([2, 1], index) for index in range(3)], [[0, 2, 1], [1, 0, 2], [2, 1, 0]])

    def test_all_of_one_to_six_guests(self):
        for guests in range(1, 7):
            for sizes in compositions(guests):
                seatings = by_lists_of_tables(with_sizes(sizes))
                self.assertEqual([nth_with_sizes(sizes, index) for index in range(len(seatings))], seatings)
                if sizes == sorted(sizes):
                    found = [index_with_sizes(seating) for seating in seatings]
                    self.assertEqual(found, list(range(len(seatings))))
                self.assertRaises(InvalidIndex, nth_with_sizes, sizes, len(seatings))

    def test_twenty_guests(self):
        self.assertEqual(nth_with_sizes([1] * 20, 0), ALONE)
        self.assertEqual(nth_with_sizes([20], 0), ALONE[1:] + [0])
        self.assertEqual(plain_tables(nth_with_sizes([20], factorial(19) - 1)), [(0, *range(19, 0, -1))])
        last = [(0, 19), (1, 18), (2, 17), (3, 16), (4, 15), (5, 14), (6, 13), (7, 12), (8, 11), (9, 10)]
        self.assertEqual(plain_tables(nth_with_sizes([2] * 10, 654729074)), last)
        for sizes in ([20], [1] * 20, [2] * 10, [3, 3, 3, 3, 3, 5], [1, 2, 3, 4, 5, 5], [10, 10], [19, 1]):
            many = count_sizes(sizes)
            self.assertRaises(InvalidIndex, nth_with_sizes, sizes, many)
            for index in sorted({0, many // 7, many // 2, many - 1}):
                seating = nth_with_sizes(sizes, index)
                self.assertEqual(sorted(plain_sizes(seating)), sorted(sizes))
                self.assertEqual(index_with_sizes(seating), index)

    def test_neighbours_of_twenty_guests_ascend(self):
        sizes = [4, 4, 6, 1, 5]
        for index in range(0, count_sizes(sizes) - 1, count_sizes(sizes) // 50):
            one, other = nth_with_sizes(sizes, index), nth_with_sizes(sizes, index + 1)
            self.assertLess(plain_tables(one), plain_tables(other))

    def test_wrong_indices(self):
        for index in [3] + WRONG_INDICES:
            with self.subTest(index=index):
                self.assertRaises(InvalidIndex, nth_with_sizes, [2, 1], index)

    def test_wrong_seatings(self):
        for thing in NO_LISTS_OF_GUESTS:
            with self.subTest(thing=thing):
                self.assertRaises(InvalidSeating, index_with_sizes, thing)


class OpeningTest(unittest.TestCase):

    def test_by_hand(self):
        self.assertEqual(count_by_opening([2, 1]), 2)
        self.assertEqual(count_by_opening([1, 2]), 1)
        self.assertEqual(count_by_opening([20]), factorial(19))
        self.assertEqual(count_by_opening([1] * 20), 1)

    def test_all_of_one_to_six_guests(self):
        for guests in range(1, 7):
            seatings = all_seatings(guests)
            for sizes in compositions(guests):
                some = [seating for seating in seatings if plain_sizes(seating) == sizes]
                self.assertEqual(count_by_opening(sizes), len(some))
                for weight in (1, 3):
                    self.assertEqual(opening_share(sizes, weight), share_of(some, seatings, weight))

    def test_edges(self):
        self.assertEqual(opening_share([1], MOST), (1, 1))
        self.assertEqual(opening_share([20], 1), (1, 20))
        self.assertEqual(opening_share([19, 1], MOST),
                         pair(Fraction(MOST ** 2 * factorial(20) // 20, rising_product(20, MOST))))


class SizeTest(unittest.TestCase):

    def test_the_example(self):
        self.assertEqual([size_share(4, 2, size) for size in (1, 2, 3, 4)], [(2, 5), (3, 10), (1, 5), (1, 10)])

    def test_all_of_one_to_six_guests(self):
        for guests in range(1, 7):
            for weight in (1, 2, 7):
                for size in range(1, guests + 1):
                    for guest in (0, guests - 1):
                        expected = plain_share(guests, weight, lambda one: len(table_with(one, guest)) == size)
                        self.assertEqual(size_share(guests, weight, size), expected)
                    self.check_numbers(guests, weight, size)

    def check_numbers(self, guests, weight, size):
        seatings = all_seatings(guests)
        top = sum(plain_weight(one, weight) * plain_sizes(one).count(size) for one in seatings)
        self.assertEqual(mean_number(guests, weight, size), pair(Fraction(top, weigh(seatings, weight))))
        expected = [plain_share(guests, weight, lambda one: plain_sizes(one).count(size) == number)
                    for number in range(guests // size + 1)]
        self.assertEqual(number_shares(guests, weight, size), expected)

    def test_edges(self):
        self.assertEqual(size_share(1, MOST, 1), (1, 1))
        self.assertEqual(mean_number(1, MOST, 1), (1, 1))
        self.assertEqual(number_shares(1, MOST, 1), [(0, 1), (1, 1)])
        self.assertEqual([size_share(20, 1, size) for size in range(1, 21)], [(1, 20)] * 20)
        self.assertEqual(mean_number(20, 1, 20), (1, 20))
        self.assertEqual(number_shares(20, 1, 20), [(19, 20), (1, 20)])
        whole = rising_product(20, MOST)
        self.assertEqual(size_share(20, MOST, 20), pair(Fraction(MOST * factorial(19), whole)))
        self.assertEqual(number_shares(20, MOST, 1)[20], pair(Fraction(MOST ** 20, whole)))
        self.assertEqual(number_shares(20, MOST, 1)[19], (0, 1))

    def test_twenty_guests_add_up(self):
        for weight in (1, 9, MOST):
            self.assertEqual(sum(Fraction(*size_share(20, weight, size)) for size in range(1, 21)), 1)
            for size in range(1, 21):
                shares = [Fraction(*share) for share in number_shares(20, weight, size)]
                self.assertEqual(len(shares), 20 // size + 1)
                self.assertEqual(sum(shares), 1)
                mean = sum(number * share for number, share in enumerate(shares))
                self.assertEqual(mean_number(20, weight, size), pair(mean))

    def test_wrong_arguments(self):
        for function in (size_share, mean_number, number_shares):
            for guests in WRONG_GUESTS:
                self.assertRaises(InvalidGuests, function, guests, 0, 0)
            for weight in WRONG_WEIGHTS:
                self.assertRaises(InvalidWeight, function, 4, weight, 0)
            for size in [0, -1, 5, 21, 10 ** 30] + NO_INTEGERS:
                with self.subTest(function=function.__name__, size=size):
                    self.assertRaises(InvalidNumber, function, 4, 1, size)


class AllowedTest(unittest.TestCase):

    def test_by_hand(self):
        self.assertEqual(count_allowed(4, [2]), 3)
        self.assertEqual(count_allowed(4, [1, 2]), 10)
        self.assertEqual(count_allowed(3, [2, 4, 20]), 0)
        # 16 for all alone, 6 * 8 with one pair, 3 * 4 with two: 76 of 120.
        self.assertEqual(allowed_share(4, 2, [1, 2]), (19, 30))
        self.assertEqual(first_allowed(4, 2, [1, 2]), [(10, 19), (9, 19)])

    def test_all_of_one_to_five_guests(self):
        for guests in range(1, 6):
            for allowed in subsets(range(1, guests + 2)):
                seatings = by_lists_of_tables(with_allowed(guests, allowed))
                self.assertEqual(count_allowed(guests, allowed), len(seatings))
                for weight in (1, 3):
                    self.assertEqual(allowed_share(guests, weight, allowed),
                                     share_of(seatings, all_seatings(guests), weight))
                found = [nth_allowed(guests, allowed, index) for index in range(len(seatings))]
                self.assertEqual(found, seatings)
                self.assertRaises(InvalidIndex, nth_allowed, guests, allowed, len(seatings))
                self.check_first(guests, allowed, seatings)

    def check_first(self, guests, allowed, seatings):
        for weight in (1, 3):
            if not seatings:
                self.assertRaises(NoSeating, first_allowed, guests, weight, allowed)
                continue
            expected = [share_of([one for one in seatings if plain_sizes(one)[0] == size], seatings, weight)
                        for size in allowed]
            self.assertEqual(first_allowed(guests, weight, allowed), expected)

    def test_sizes_beyond_the_guests(self):
        self.assertEqual(count_allowed(1, list(range(1, 21))), 1)
        self.assertEqual(allowed_share(1, MOST, [1, 20]), (1, 1))
        self.assertEqual(allowed_share(1, MOST, [2, 20]), (0, 1))
        self.assertEqual(nth_allowed(1, [1, 20], 0), [0])
        self.assertEqual(first_allowed(1, MOST, [1, 2, 20]), [(1, 1), (0, 1), (0, 1)])
        self.assertEqual(first_allowed(3, 1, [1, 2, 4]), [(1, 2), (1, 2), (0, 1)])

    def test_a_size_within_the_guests_that_cannot_be(self):
        # With three guests at guest 0's table the fourth is left over.
        self.assertEqual(first_allowed(4, 1, [2, 3]), [(1, 1), (0, 1)])

    def test_twenty_guests(self):
        everything = list(range(1, 21))
        self.assertEqual(count_allowed(20, everything), factorial(20))
        self.assertEqual(allowed_share(20, MOST, everything), (1, 1))
        self.assertEqual(first_allowed(20, 1, everything), [(1, 20)] * 20)
        self.assertEqual(count_allowed(20, [20]), factorial(19))
        self.assertEqual(count_allowed(20, [2]), 654729075)
        self.assertEqual(count_allowed(20, [1]), 1)
        self.assertEqual(allowed_share(20, MOST, [2]), pair(Fraction(654729075 * MOST ** 10, rising_product(20, MOST))))
        for allowed in (everything, [2, 3], [20], [1], [4, 7, 13], [5, 6, 19]):
            many = count_allowed(20, allowed)
            self.assertRaises(InvalidIndex, nth_allowed, 20, allowed, many)
            for index in range(0, many - 1, many // 30 + 1):
                one, other = (nth_allowed(20, allowed, at) for at in (index, index + 1))
                self.assertLess(plain_tables(one), plain_tables(other))
                self.assertLessEqual(set(plain_sizes(one)), set(allowed))

    def test_the_first_and_the_last_of_twenty(self):
        everything = list(range(1, 21))
        self.assertEqual(nth_allowed(20, everything, 0), ALONE)
        last = nth_allowed(20, everything, factorial(20) - 1)
        self.assertEqual(plain_tables(last), [(0, *range(19, 0, -1))])

    def test_no_index_where_there_is_none(self):
        for index in [0, 1] + WRONG_INDICES:
            with self.subTest(index=index):
                self.assertRaises(InvalidIndex, nth_allowed, 3, [2], index)
        for index in [10] + WRONG_INDICES:
            with self.subTest(index=index):
                self.assertRaises(InvalidIndex, nth_allowed, 4, [1, 2], index)

    def test_wrong_allowed(self):
        for thing in NO_ALLOWED:
            with self.subTest(thing=thing):
                self.assertRaises(InvalidSizes, count_allowed, 4, thing)
                self.assertRaises(InvalidSizes, allowed_share, 4, 1, thing)
                self.assertRaises(InvalidSizes, nth_allowed, 4, thing, -1)
                self.assertRaises(InvalidSizes, first_allowed, 4, 1, thing)

    def test_wrong_guests_and_weights(self):
        for guests in WRONG_GUESTS:
            with self.subTest(guests=guests):
                self.assertRaises(InvalidGuests, count_allowed, guests, [])
                self.assertRaises(InvalidGuests, allowed_share, guests, 0, [])
                self.assertRaises(InvalidGuests, nth_allowed, guests, [], -1)
                self.assertRaises(InvalidGuests, first_allowed, guests, 0, [])
        for weight in WRONG_WEIGHTS:
            with self.subTest(weight=weight):
                self.assertRaises(InvalidWeight, allowed_share, 4, weight, [])
                self.assertRaises(InvalidWeight, first_allowed, 4, weight, [])


class GivenSizesTest(unittest.TestCase):

    def test_by_hand(self):
        # Guest 1 opens in [(0,), (1, 2)] and [(0, 2), (1,)], guest 2 in [(0, 1), (2,)] alone.
        self.assertEqual([given_open([2, 1], guest) for guest in range(3)], [(1, 1), (2, 3), (1, 3)])
        self.assertEqual(given_together([2, 1]), (1, 3))

    def test_all_of_one_to_six_guests(self):
        for guests in range(1, 7):
            for sizes in compositions(guests):
                seatings = with_sizes(sizes)
                for guest in range(guests):
                    some = [seating for seating in seatings if guest in plain_openers(seating)]
                    self.assertEqual(given_open(sizes, guest), share_of(some, seatings, 1))
                if guests > 1:
                    for mate in (1, guests - 1):
                        some = [seating for seating in seatings if mate in table_with(seating, 0)]
                        self.assertEqual(given_together(sizes), share_of(some, seatings, 1))

    def test_edges(self):
        self.assertEqual(given_open([1], 0), (1, 1))
        self.assertEqual(given_open([20], 0), (1, 1))
        self.assertEqual(given_open([20], 1), (0, 1))
        self.assertEqual(given_open([1] * 20, 19), (1, 1))
        self.assertEqual(given_open([10, 10], 10), pair(Fraction(1, comb(19, 10))))
        self.assertEqual(given_open([10, 10], 11), (0, 1))
        self.assertEqual(given_together([1, 1]), (0, 1))
        self.assertEqual(given_together([2]), (1, 1))
        self.assertEqual(given_together([20]), (1, 1))
        self.assertEqual(given_together([1] * 20), (0, 1))
        self.assertEqual(given_together([10, 10]), (9, 19))

    def test_as_many_open_as_there_are_tables(self):
        for sizes in ([20], [3, 17], [1, 2, 3, 4, 10], [2] * 10, [1] * 20):
            self.assertEqual(sum(Fraction(*given_open(sizes, guest)) for guest in range(20)), len(sizes))

    def test_one_guest_is_not_together(self):
        self.assertRaises(InvalidSizes, given_together, [1])

    def test_wrong_guests(self):
        for guest in [-1, 3, 20, 10 ** 30] + NO_INTEGERS:
            with self.subTest(guest=guest):
                self.assertRaises(InvalidGuest, given_open, [2, 1], guest)
        self.assertRaises(InvalidGuest, given_open, [1], 1)
        self.assertRaises(InvalidGuest, given_open, [20], 20)


if __name__ == "__main__":
    unittest.main()
