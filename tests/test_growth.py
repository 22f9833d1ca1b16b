"""[14]: how tables of told sizes grow if more guests come."""

import unittest
from fractions import Fraction
from itertools import product

from newtables.errors import HallError, InvalidNumber, InvalidSizes, InvalidWeight
from newtables.growth import grow_share, mean_later, new_shares
from tests.helpers import MOST, NO_INTEGERS, WRONG_WEIGHTS, pair

SOME_SIZES = [[1], [2], [1, 1], [2, 1], [1, 3], [3, 1, 2], [1, 1, 1, 2]]
WRONG_SIZES = [None, True, 0, "", "1", (), (1,), {}, [], [0], [-1], [True], ["1"], [1, None], [20, 1], [21], [[1]],
               [1] * 21, HallError("1"), {"1": 1}, [10 ** 30], [2, -1]]
WRONG_NUMBERS = [-1, 41, 10 ** 30, -(10 ** 30)] + NO_INTEGERS


def come_one_by_one(sizes, weight, number):
    """The shares of all later sizes, by the places that each newcomer may take."""
    shares = {tuple(sizes) + (0,): Fraction(1)}
    for _ in range(number):
        further = {}
        for later, share in shares.items():
            there = sum(later)
            for at, now in enumerate(later):
                # At the new tables there is one place more, which counts weight times.
                places = now + weight if at == len(sizes) else now
                grown = later[:at] + (now + 1,) + later[at + 1:]
                further[grown] = further.get(grown, 0) + share * Fraction(places, weight + there)
        shares = further
    return shares


class ComingOneByOneTest(unittest.TestCase):

    def test_shares(self):
        for sizes in SOME_SIZES:
            for weight in (1, 2, 7):
                for number in range(5):
                    shares = come_one_by_one(sizes, weight, number)
                    self.assertEqual(sum(shares.values()), 1)
                    for later, share in shares.items():
                        with self.subTest(sizes=sizes, weight=weight, later=later):
                            self.assertEqual(grow_share(sizes, weight, list(later)), pair(share))

    def test_means(self):
        for sizes, weight, number in product(SOME_SIZES, (1, 2, 7), range(5)):
            with self.subTest(sizes=sizes, weight=weight, number=number):
                shares = come_one_by_one(sizes, weight, number)
                means = [sum(later[at] * share for later, share in shares.items()) for at in range(len(sizes))]
                self.assertEqual(mean_later(sizes, weight, number), [pair(mean) for mean in means])

    def test_new_tables(self):
        for sizes, weight, number in product(SOME_SIZES, (1, 2, 7), range(5)):
            with self.subTest(sizes=sizes, weight=weight, number=number):
                shares = come_one_by_one(sizes, weight, number)
                expected = [sum(share for later, share in shares.items() if later[-1] == fresh)
                            for fresh in range(number + 1)]
                self.assertEqual(new_shares(sizes, weight, number), [pair(share) for share in expected])


class ByHandTest(unittest.TestCase):

    def test_one_newcomer(self):
        self.assertEqual(grow_share([2, 1], 3, [3, 1, 0]), (1, 3))
        self.assertEqual(grow_share([2, 1], 3, [2, 2, 0]), (1, 6))
        self.assertEqual(grow_share([2, 1], 3, [2, 1, 1]), (1, 2))
        self.assertEqual(mean_later([2, 1], 3, 1), [(7, 3), (7, 6)])
        self.assertEqual(new_shares([2, 1], 3, 1), [(1, 2), (1, 2)])

    def test_nobody_comes(self):
        self.assertEqual(grow_share([2, 1], 3, [2, 1, 0]), (1, 1))
        self.assertEqual(grow_share([20], MOST, [20, 0]), (1, 1))
        self.assertEqual(mean_later([2, 1, 17], MOST, 0), [(2, 1), (1, 1), (17, 1)])
        self.assertEqual(new_shares([1], 1, 0), [(1, 1)])

    def test_forty_come(self):
        for sizes in ([20], [1], [1] * 20, [3, 9, 1, 7]):
            for weight in (1, 5, MOST):
                guests = sum(sizes)
                means = mean_later(sizes, weight, 40)
                grown = Fraction(guests + weight + 40, guests + weight)
                self.assertEqual(means, [pair(size * grown) for size in sizes])
                shares = [Fraction(*share) for share in new_shares(sizes, weight, 40)]
                self.assertEqual(len(shares), 41)
                self.assertEqual(sum(shares), 1)
                # Those who are not at the old tables are at new ones.
                fresh = sum(number * share for number, share in enumerate(shares))
                self.assertEqual(fresh + sum(Fraction(*mean) for mean in means), guests + 40)
                for number in (0, 1, 40):
                    if len(sizes) == 1:
                        later = [guests + 40 - number, number]
                        self.assertEqual(grow_share(sizes, weight, later), pair(shares[number]))

    def test_more_than_forty_come(self):
        self.assertEqual(grow_share([1], 1, [60, 0]), (1, 60))
        self.assertEqual(grow_share([1], 1, [1, 59]), (1, 60))
        self.assertEqual(grow_share([1, 1], 1, [1, 1, 58]), pair(Fraction(2, 60 * 59)))
        self.assertEqual(grow_share([1] * 20, 1, [3] * 20 + [0]),
                         pair(Fraction(self.factorial(40), self.factorial(60)) * self.factorial(20)))
        total = sum(Fraction(*grow_share([2, 3], MOST, [now, then, 60 - now - then]))
                    for now in range(2, 61) for then in range(3, 61 - now))
        self.assertEqual(total, 1)

    def factorial(self, number):
        return 1 if number == 0 else number * self.factorial(number - 1)

    def test_the_sequence_of_the_sizes(self):
        self.assertEqual(mean_later([1, 3, 2], 2, 8), [(2, 1), (6, 1), (4, 1)])
        self.assertEqual(grow_share([1, 3, 2], 2, [2, 3, 4, 1]), grow_share([3, 2, 1], 2, [3, 4, 2, 1]))
        self.assertEqual(new_shares([1, 3, 2], 2, 8), new_shares([6], 2, 8))


class WrongArgumentsTest(unittest.TestCase):

    def test_wrong_later(self):
        wrong = [None, True, 0, "", "220", (2, 1, 0), {}, {"2": 1}, HallError("2"), [], [2, 1], [2, 1, 0, 0], [3],
                 [1, 1, 0], [2, 0, 0], [2, 0, 5], [1, 2, 0], [2, 1, -1], [3, 1, -1], [2, 1, None], [2, True, 0],
                 [2, 1, False], [2, 1, True], ["2", "1", "0"], [2, 1, [0]], [[2], 1, 0], [2, 1, 58], [59, 1, 1],
                 [2, 59, 0], [60, 1, 0], [2, 1, 10 ** 30], [10 ** 30, 1, 0], [2, 10 ** 30, -(10 ** 30)], [2] * 2000]
        for later in wrong:
            with self.subTest(later=later):
                self.assertRaises(InvalidSizes, grow_share, [2, 1], 3, later)
        for later in ([2, 1, 57], [59, 1, 0], [2, 58, 0], [20, 20, 20]):
            self.assertEqual(len(grow_share([2, 1], 3, later)), 2)

    def test_wrong_sizes(self):
        for sizes in WRONG_SIZES:
            with self.subTest(sizes=sizes):
                self.assertRaises(InvalidSizes, grow_share, sizes, 1, [1, 0])
                self.assertRaises(InvalidSizes, mean_later, sizes, 1, 1)
                self.assertRaises(InvalidSizes, new_shares, sizes, 1, 1)

    def test_wrong_weights_and_numbers(self):
        for weight in WRONG_WEIGHTS:
            self.assertRaises(InvalidWeight, grow_share, [1], weight, [1, 0])
            self.assertRaises(InvalidWeight, mean_later, [1], weight, 1)
            self.assertRaises(InvalidWeight, new_shares, [1], weight, 1)
        for number in WRONG_NUMBERS:
            self.assertRaises(InvalidNumber, mean_later, [1], 1, number)
            self.assertRaises(InvalidNumber, new_shares, [1], 1, number)


if __name__ == "__main__":
    unittest.main()
