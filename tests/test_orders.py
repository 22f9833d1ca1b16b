"""[8]: how many seatings and coming lists there are, and their indices."""

import unittest
from math import factorial

from newtables.errors import InvalidComing, InvalidGuests, InvalidIndex, InvalidNumber, InvalidSeating
from newtables.orders import (
    by_tables, coming_index, coming_index_with, count_seatings, next_seating, nth_coming, nth_coming_with,
    nth_seating, seating_index,
)
from tests.helpers import (
    NO_COMINGS, NO_INTEGERS, NO_LISTS_OF_GUESTS, WRONG_GUESTS, all_comings, all_seatings, plain_tables,
)

LAST = factorial(20) - 1
ALONE = list(range(20))
WRONG_INDICES = [-1, 10 ** 30, -(10 ** 30)] + NO_INTEGERS


def openings(coming):
    return sum(item == guest for guest, item in enumerate(coming))


class CountTest(unittest.TestCase):

    def test_count_seatings(self):
        self.assertEqual([count_seatings(guests) for guests in (1, 2, 3, 4, 5)], [1, 2, 6, 24, 120])
        self.assertEqual(count_seatings(20), 2432902008176640000)

    def test_by_tables(self):
        self.assertEqual(by_tables(1), [0, 1])
        self.assertEqual(by_tables(4), [0, 6, 11, 6, 1])
        for guests in range(1, 7):
            numbers = [len(plain_tables(seating)) for seating in all_seatings(guests)]
            self.assertEqual(by_tables(guests), [numbers.count(number) for number in range(guests + 1)])

    def test_by_tables_of_twenty(self):
        numbers = by_tables(20)
        self.assertEqual(len(numbers), 21)
        self.assertEqual(sum(numbers), factorial(20))
        self.assertEqual(numbers[:2] + numbers[19:], [0, factorial(19), 190, 1])

    def test_wrong_guests(self):
        for guests in WRONG_GUESTS:
            with self.subTest(guests=guests):
                self.assertRaises(InvalidGuests, count_seatings, guests)
                self.assertRaises(InvalidGuests, by_tables, guests)


class ComingTest(unittest.TestCase):

    def test_ascending(self):
        self.assertEqual([nth_coming(3, index) for index in range(6)],
                         [[0, 0, 0], [0, 0, 1], [0, 0, 2], [0, 1, 0], [0, 1, 1], [0, 1, 2]])

    def test_all_of_one_to_six_guests(self):
        for guests in range(1, 7):
            comings = all_comings(guests)
            self.assertEqual([nth_coming(guests, index) for index in range(len(comings))], comings)
            self.assertEqual([coming_index(coming) for coming in comings], list(range(len(comings))))

    def test_twenty_guests(self):
        self.assertEqual(nth_coming(20, 0), [0] * 20)
        self.assertEqual(nth_coming(20, LAST), ALONE)
        self.assertEqual(nth_coming(20, 20), [0] * 18 + [1, 0])
        self.assertEqual(coming_index(ALONE), LAST)
        self.assertEqual(coming_index([0] * 20), 0)
        for index in range(0, LAST, LAST // 97):
            self.assertEqual(coming_index(nth_coming(20, index)), index)

    def test_wrong_indices(self):
        for index in [24] + WRONG_INDICES:
            with self.subTest(index=index):
                self.assertRaises(InvalidIndex, nth_coming, 4, index)
        self.assertRaises(InvalidIndex, nth_coming, 1, 1)
        self.assertRaises(InvalidIndex, nth_coming, 20, LAST + 1)

    def test_wrong_comings(self):
        for thing in NO_COMINGS:
            with self.subTest(thing=thing):
                self.assertRaises(InvalidComing, coming_index, thing)
                self.assertRaises(InvalidComing, coming_index_with, thing)

    def test_wrong_guests(self):
        for guests in WRONG_GUESTS:
            with self.subTest(guests=guests):
                self.assertRaises(InvalidGuests, nth_coming, guests, 0)
                self.assertRaises(InvalidGuests, nth_coming, guests, -1)


class ComingWithTest(unittest.TestCase):

    def test_two_tables_of_three_guests(self):
        self.assertEqual([nth_coming_with(3, 2, index) for index in range(3)], [[0, 0, 2], [0, 1, 0], [0, 1, 1]])

    def test_all_of_one_to_six_guests(self):
        for guests in range(1, 7):
            for number in range(1, guests + 1):
                comings = [coming for coming in all_comings(guests) if openings(coming) == number]
                found = [nth_coming_with(guests, number, index) for index in range(len(comings))]
                self.assertEqual(found, comings)
                self.assertEqual([coming_index_with(coming) for coming in comings], list(range(len(comings))))
                self.assertRaises(InvalidIndex, nth_coming_with, guests, number, len(comings))

    def test_twenty_guests(self):
        many = by_tables(20)
        self.assertEqual(nth_coming_with(20, 20, 0), ALONE)
        self.assertEqual(nth_coming_with(20, 1, 0), [0] * 20)
        self.assertEqual(nth_coming_with(20, 1, factorial(19) - 1), [0, *range(19)])
        self.assertEqual(nth_coming_with(20, 19, 0), ALONE[:1] + [0] + ALONE[2:])
        self.assertEqual(nth_coming_with(20, 19, 189), ALONE[:19] + [18])
        for number in range(1, 21):
            self.assertRaises(InvalidIndex, nth_coming_with, 20, number, many[number])
            for index in sorted({0, many[number] // 3, many[number] // 2, many[number] - 1}):
                coming = nth_coming_with(20, number, index)
                self.assertEqual(openings(coming), number)
                self.assertEqual(coming_index_with(coming), index)

    def test_wrong_numbers(self):
        for number in [0, -1, 5, 21, 10 ** 30] + NO_INTEGERS:
            with self.subTest(number=number):
                self.assertRaises(InvalidNumber, nth_coming_with, 4, number, 0)
                self.assertRaises(InvalidNumber, nth_coming_with, 4, number, -1)

    def test_wrong_indices(self):
        for index in [11] + WRONG_INDICES:
            with self.subTest(index=index):
                self.assertRaises(InvalidIndex, nth_coming_with, 4, 2, index)
        self.assertRaises(InvalidIndex, nth_coming_with, 1, 1, 1)

    def test_wrong_guests(self):
        for guests in WRONG_GUESTS:
            with self.subTest(guests=guests):
                self.assertRaises(InvalidGuests, nth_coming_with, guests, 1, 0)
                self.assertRaises(InvalidGuests, nth_coming_with, guests, 0, -1)


class SeatingTest(unittest.TestCase):

    def test_all_of_one_to_six_guests(self):
        for guests in range(1, 7):
            seatings = all_seatings(guests)
            self.assertEqual([nth_seating(guests, index) for index in range(len(seatings))], seatings)
            self.assertEqual([seating_index(seating) for seating in seatings], list(range(len(seatings))))
            self.assertEqual([next_seating(seating) for seating in seatings], seatings[1:] + [None])

    def test_twenty_guests(self):
        self.assertEqual(nth_seating(20, 0), ALONE)
        self.assertEqual(nth_seating(20, 1), ALONE[:18] + [19, 18])
        self.assertEqual(nth_seating(20, LAST), ALONE[::-1])
        self.assertEqual(nth_seating(20, factorial(19)), [1, 0] + ALONE[2:])
        self.assertEqual(seating_index(ALONE[::-1]), LAST)
        for index in range(0, LAST, LAST // 97):
            seating = nth_seating(20, index)
            self.assertEqual(seating_index(seating), index)
            self.assertEqual(seating_index(next_seating(seating)), index + 1)

    def test_the_last_seating_has_no_next_one(self):
        self.assertIsNone(next_seating([0]))
        self.assertIsNone(next_seating([1, 0]))
        self.assertIsNone(next_seating(ALONE[::-1]))
        self.assertEqual(next_seating([0] + ALONE[:0:-1]), [1, 0] + ALONE[2:])

    def test_wrong_indices(self):
        for index in [24] + WRONG_INDICES:
            with self.subTest(index=index):
                self.assertRaises(InvalidIndex, nth_seating, 4, index)
        self.assertRaises(InvalidIndex, nth_seating, 1, 1)
        self.assertRaises(InvalidIndex, nth_seating, 20, LAST + 1)

    def test_wrong_seatings(self):
        for thing in NO_LISTS_OF_GUESTS:
            with self.subTest(thing=thing):
                self.assertRaises(InvalidSeating, seating_index, thing)
                self.assertRaises(InvalidSeating, next_seating, thing)

    def test_wrong_guests(self):
        for guests in WRONG_GUESTS:
            with self.subTest(guests=guests):
                self.assertRaises(InvalidGuests, nth_seating, guests, 0)
                self.assertRaises(InvalidGuests, nth_seating, guests, -1)


if __name__ == "__main__":
    unittest.main()
