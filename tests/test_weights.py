"""[9], and what [3] and [4] say of weights and shares."""

import unittest
from fractions import Fraction

from newtables.errors import InvalidGuests, InvalidNumber, InvalidSeating, InvalidWeight
from newtables.weights import (
    best_weights, likeliest_tables, mean_tables, seating_share, tables_share, total_weight,
)
from tests.helpers import (
    MOST, NO_INTEGERS, NO_LISTS_OF_GUESTS, WRONG_GUESTS, WRONG_WEIGHTS,
    all_seatings, pair, plain_share, plain_tables, plain_weight, rising_product, weigh,
)

EXAMPLE = [1, 3, 2, 0]


class TotalTest(unittest.TestCase):

    def test_the_example(self):
        self.assertEqual(total_weight(4, 2), 120)

    def test_edges(self):
        self.assertEqual(total_weight(1, 1), 1)
        self.assertEqual(total_weight(1, MOST), MOST)
        self.assertEqual(total_weight(20, 1), 2432902008176640000)
        self.assertEqual(total_weight(2, MOST), MOST * (MOST + 1))
        self.assertEqual(total_weight(20, MOST), rising_product(20, MOST))

    def test_it_is_the_sum_over_all_seatings(self):
        for guests in range(1, 7):
            for weight in (1, 2, 3, 10):
                self.assertEqual(total_weight(guests, weight), weigh(all_seatings(guests), weight))


class SeatingShareTest(unittest.TestCase):

    def test_the_example(self):
        self.assertEqual(seating_share(EXAMPLE, 2), (1, 30))

    def test_edges(self):
        self.assertEqual(seating_share([0], 1), (1, 1))
        self.assertEqual(seating_share([0], MOST), (1, 1))
        self.assertEqual(seating_share([1, 0], MOST), (1, MOST + 1))
        self.assertEqual(seating_share([0, 1], MOST), (MOST, MOST + 1))
        self.assertEqual(seating_share(list(range(20)), 1), (1, 2432902008176640000))
        everybody_alone = Fraction(MOST ** 20, rising_product(20, MOST))
        self.assertEqual(seating_share(list(range(20)), MOST), pair(everybody_alone))

    def test_all_seatings(self):
        for guests in range(1, 6):
            for weight in (1, 2, 7):
                for seating in all_seatings(guests):
                    expected = plain_share(guests, weight, lambda other: other == seating)
                    self.assertEqual(seating_share(seating, weight), expected)

    def test_wrong_arguments(self):
        for thing in NO_LISTS_OF_GUESTS:
            with self.subTest(thing=thing):
                self.assertRaises(InvalidSeating, seating_share, thing, 1)
                self.assertRaises(InvalidSeating, seating_share, thing, 0)
        for weight in WRONG_WEIGHTS:
            with self.subTest(weight=weight):
                self.assertRaises(InvalidWeight, seating_share, [0], weight)


class TablesShareTest(unittest.TestCase):

    def test_four_guests_of_weight_two(self):
        # 6, 11, 6, 1 seatings have 1, 2, 3, 4 tables.
        shares = [tables_share(4, 2, number) for number in range(5)]
        self.assertEqual(shares, [(0, 1), (1, 10), (11, 30), (2, 5), (2, 15)])

    def test_edges(self):
        self.assertEqual([tables_share(1, 1, number) for number in (0, 1)], [(0, 1), (1, 1)])
        self.assertEqual(tables_share(1, MOST, 1), (1, 1))
        self.assertEqual(tables_share(20, 1, 0), (0, 1))
        self.assertEqual(tables_share(20, 1, 1), (1, 20))
        self.assertEqual(tables_share(20, 1, 20), (1, 2432902008176640000))
        self.assertEqual(tables_share(20, MOST, 20), pair(Fraction(MOST ** 20, rising_product(20, MOST))))
        self.assertEqual(tables_share(20, MOST, 19), pair(Fraction(190 * MOST ** 19, rising_product(20, MOST))))

    def test_all_seatings(self):
        for guests in range(1, 7):
            for weight in (1, 2, 5):
                for number in range(guests + 1):
                    expected = plain_share(guests, weight, lambda one: len(plain_tables(one)) == number)
                    self.assertEqual(tables_share(guests, weight, number), expected)

    def test_the_shares_add_up_to_one(self):
        for weight in (1, 6, MOST):
            self.assertEqual(sum(Fraction(*tables_share(20, weight, number)) for number in range(21)), 1)

    def test_wrong_numbers(self):
        for number in [-1, 5, 21, 10 ** 30, -(10 ** 30)] + NO_INTEGERS:
            with self.subTest(number=number):
                self.assertRaises(InvalidNumber, tables_share, 4, 2, number)
        self.assertRaises(InvalidNumber, tables_share, 1, 1, 2)
        self.assertRaises(InvalidNumber, tables_share, 20, 1, 21)


class MeanTest(unittest.TestCase):

    def test_by_hand(self):
        # 1 + 2/3 + 2/4 + 2/5
        self.assertEqual(mean_tables(4, 2), (77, 30))
        self.assertEqual(mean_tables(2, 1), (3, 2))

    def test_edges(self):
        self.assertEqual(mean_tables(1, 1), (1, 1))
        self.assertEqual(mean_tables(1, MOST), (1, 1))
        self.assertEqual(mean_tables(20, 1), pair(sum(Fraction(1, number) for number in range(1, 21))))
        self.assertEqual(mean_tables(20, MOST), pair(sum(Fraction(MOST, MOST + guest) for guest in range(20))))

    def test_all_seatings(self):
        for guests in range(1, 7):
            for weight in (1, 3, 10):
                top = sum(plain_weight(one, weight) * len(plain_tables(one)) for one in all_seatings(guests))
                self.assertEqual(mean_tables(guests, weight), pair(Fraction(top, rising_product(guests, weight))))


class LikeliestTest(unittest.TestCase):

    def test_by_hand(self):
        self.assertEqual(likeliest_tables(4, 2), [3])
        self.assertEqual(likeliest_tables(3, 1), [2])

    def test_several_with_the_same_share(self):
        self.assertEqual(likeliest_tables(2, 1), [1, 2])
        # 2 w = 3 w ** 2 never holds, 3 w ** 2 = w ** 3 does for 3.
        self.assertEqual(likeliest_tables(3, 3), [2, 3])
        # 11 w ** 2 = 6 w ** 3 never holds, 6 w ** 3 = w ** 4 does for 6.
        self.assertEqual(likeliest_tables(4, 6), [3, 4])

    def test_edges(self):
        self.assertEqual(likeliest_tables(1, 1), [1])
        self.assertEqual(likeliest_tables(1, MOST), [1])
        self.assertEqual(likeliest_tables(20, 1), [3])
        self.assertEqual(likeliest_tables(20, 189), [19])
        self.assertEqual(likeliest_tables(20, 190), [19, 20])
        self.assertEqual(likeliest_tables(20, 191), [20])
        self.assertEqual(likeliest_tables(20, MOST), [20])

    def test_all_shares(self):
        for guests in range(1, 21):
            for weight in (1, 2, 3, 6, 10, 15, 100, MOST):
                shares = [Fraction(*tables_share(guests, weight, number)) for number in range(guests + 1)]
                expected = [number for number in range(guests + 1) if shares[number] == max(shares)]
                self.assertEqual(likeliest_tables(guests, weight), expected)


class BestWeightsTest(unittest.TestCase):

    def test_one_table_is_likeliest_at_weight_one(self):
        for guests in range(2, 21):
            self.assertEqual(best_weights(guests, 1), (1, 1))

    def test_two_weights_may_be_the_best(self):
        # Of three guests two tables: 3 / 6 at weight 1, 12 / 24 at weight 2.
        self.assertEqual(best_weights(3, 2), (1, 2))
        self.assertEqual(best_weights(7, 3), (1, 2))
        self.assertEqual(best_weights(15, 4), (1, 2))

    def test_by_hand(self):
        # Of four guests three tables: 6 w ** 2 / ((w + 1) (w + 2) (w + 3)) for 3, 4, 5: 54/120, 96/210, 150/336.
        self.assertEqual(best_weights(4, 2), (1, 1))
        self.assertEqual(best_weights(4, 3), (4, 4))

    def test_number_of_guests_has_no_best(self):
        for guests in range(1, 21):
            self.assertIsNone(best_weights(guests, guests))

    def test_by_all_weights_up_to_a_bound(self):
        # Behind weight guests ** 2 fewer than guests tables are rarer and rarer.
        for guests in range(2, 21):
            numbers = range(1, guests)
            tops = {number: (Fraction(0), []) for number in numbers}
            for weight in range(1, guests ** 2 + 1):
                for number in numbers:
                    share = Fraction(weight ** number, rising_product(guests, weight))
                    if share > tops[number][0]:
                        tops[number] = (share, [weight])
                    elif share == tops[number][0]:
                        tops[number][1].append(weight)
            for number in numbers:
                weights = tops[number][1]
                self.assertEqual(best_weights(guests, number), (weights[0], weights[-1]))

    def test_the_greatest_case(self):
        least, greatest = best_weights(20, 19)
        shares = [Fraction(*tables_share(20, weight, 19)) for weight in range(1, 400)]
        best = [weight for weight in range(1, 400) if shares[weight - 1] == max(shares)]
        self.assertEqual([least, greatest], [best[0], best[-1]])

    def test_wrong_numbers(self):
        for number in [0, -1, 5, 21, 10 ** 30, -(10 ** 30)] + NO_INTEGERS:
            with self.subTest(number=number):
                self.assertRaises(InvalidNumber, best_weights, 4, number)
        self.assertRaises(InvalidNumber, best_weights, 1, 0)
        self.assertRaises(InvalidNumber, best_weights, 1, 2)
        self.assertRaises(InvalidNumber, best_weights, 20, 21)


class WrongArgumentsTest(unittest.TestCase):

    def test_guests(self):
        for guests in WRONG_GUESTS:
            with self.subTest(guests=guests):
                self.assertRaises(InvalidGuests, total_weight, guests, 1)
                self.assertRaises(InvalidGuests, tables_share, guests, 1, 0)
                self.assertRaises(InvalidGuests, mean_tables, guests, 1)
                self.assertRaises(InvalidGuests, likeliest_tables, guests, 1)
                self.assertRaises(InvalidGuests, best_weights, guests, 1)

    def test_weight(self):
        for weight in WRONG_WEIGHTS:
            with self.subTest(weight=weight):
                self.assertRaises(InvalidWeight, total_weight, 4, weight)
                self.assertRaises(InvalidWeight, tables_share, 4, weight, 1)
                self.assertRaises(InvalidWeight, mean_tables, 4, weight)
                self.assertRaises(InvalidWeight, likeliest_tables, 4, weight)

    def test_the_first_wrong_argument_decides(self):
        self.assertRaises(InvalidGuests, total_weight, 0, 0)
        self.assertRaises(InvalidGuests, tables_share, 21, 0, -1)
        self.assertRaises(InvalidWeight, tables_share, 4, 0, -1)
        self.assertRaises(InvalidGuests, mean_tables, True, True)
        self.assertRaises(InvalidGuests, likeliest_tables, 0, MOST + 1)
        self.assertRaises(InvalidGuests, best_weights, 0, 0)
        self.assertRaises(InvalidSeating, seating_share, (0,), True)


if __name__ == "__main__":
    unittest.main()
