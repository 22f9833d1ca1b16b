"""[11]: who opens, who sits together, how many steps lead to whom."""

import unittest
from fractions import Fraction
from math import factorial

from newtables.errors import (
    HallError, InvalidGroup, InvalidGroups, InvalidGuest, InvalidGuests, InvalidNumber, InvalidWeight,
)
from newtables.events import (
    count_openers, given_tables, home_share, just_share, last_opener_share, opener_share, openers_share, other_share,
    rank_share, split_share, tables_shares, together_share,
)
from tests.helpers import (
    MOST, NO_INTEGERS, WRONG_GUESTS, WRONG_WEIGHTS, all_seatings, pair, plain_openers, plain_share, plain_tables,
    rising_product, share_of, subsets, table_with,
)

ALONE = list(range(20))
WRONG_FOR_FOUR = [-1, 4, 20, 10 ** 30, -(10 ** 30)] + NO_INTEGERS

# No groups of four guests.
NO_GROUPS = [
    None, True, 0, "", "0", (), (0,), (0, 1), {}, {"0": 0}, HallError("0"), [], [-1], [4], [True], [False], [0, True],
    [0, 0], [1, 0], [0, 2, 1], [0, 1, 2, 3, 4], [0, None], [0, "1"], ["0"], [[0]], [(0,)], [{}], [0, [1]],
    [10 ** 30], [0] * 2000,
]
NO_LISTS_OF_GROUPS = [
    None, True, 0, "", "0", (), ([0],), {}, {"0": [0]}, HallError("0"), [], [0], [0, 1], [None], ["0"], [(0,)],
    [{}], [[]], [[0], []], [[0], (1,)], [[0], 1], [[0], [0]], [[0, 1], [1, 2]], [[0, 1], [2], [0]], [[1, 0]],
    [[0], [4]], [[0], [True]], [[0], [-1]], [[0], [1, 1]], [[[0]]], [[0], [[1]]], [[]] * 2000, [[0]] * 2000,
]


def walk(seating, guest, steps):
    """The guest so many steps to the left, one after another."""
    for _ in range(abs(steps)):
        guest = seating[guest] if steps > 0 else seating.index(guest)
    return guest


def partitions(items):
    """All lists of groups, in many sequences, that have just these items."""
    if not items:
        return [[]]
    found = []
    for rest in partitions(items[1:]):
        found.append([[items[0]]] + rest)
        for at in range(len(rest)):
            found.append(rest[:at] + [[items[0]] + rest[at]] + rest[at + 1:])
    return found


class OpenersTest(unittest.TestCase):

    def test_the_example(self):
        self.assertEqual(count_openers(4, [0, 2]), 3)
        self.assertEqual(openers_share(4, 2, [0, 2]), (1, 10))
        self.assertEqual([opener_share(4, 2, guest) for guest in range(4)], [(1, 1), (2, 3), (1, 2), (2, 5)])

    def test_all_of_one_to_five_guests(self):
        for guests in range(1, 6):
            for weight in (1, 2, 5):
                for guest in range(guests):
                    self.assertEqual(opener_share(guests, weight, guest),
                                     plain_share(guests, weight, lambda one: guest in plain_openers(one)))
                    self.assertEqual(last_opener_share(guests, weight, guest),
                                     plain_share(guests, weight, lambda one: plain_openers(one)[-1] == guest))
                    for rank in range(guests):
                        self.assertEqual(rank_share(guests, weight, rank, guest), plain_share(
                            guests, weight, lambda one: plain_openers(one)[rank:rank + 1] == [guest]))

    def test_just_these_of_one_to_five_guests(self):
        for guests in range(1, 6):
            seatings = all_seatings(guests)
            for group in subsets(range(guests)):
                if group[0] == 0:
                    some = [seating for seating in seatings if plain_openers(seating) == group]
                    self.assertEqual(count_openers(guests, group), len(some))
                    for weight in (1, 2, 5):
                        self.assertEqual(openers_share(guests, weight, group), share_of(some, seatings, weight))

    def test_edges(self):
        self.assertEqual(opener_share(1, 1, 0), (1, 1))
        self.assertEqual(opener_share(20, MOST, 0), (1, 1))
        self.assertEqual(opener_share(20, MOST, 19), (MOST, MOST + 19))
        self.assertEqual(opener_share(20, 1, 19), (1, 20))
        self.assertEqual(count_openers(1, [0]), 1)
        self.assertEqual(count_openers(20, [0]), factorial(19))
        self.assertEqual(count_openers(20, ALONE), 1)
        self.assertEqual(openers_share(1, MOST, [0]), (1, 1))
        self.assertEqual(openers_share(20, MOST, ALONE), pair(Fraction(MOST ** 20, rising_product(20, MOST))))
        self.assertEqual(openers_share(20, 1, [0, 19]), (1, 380))
        self.assertEqual(last_opener_share(1, MOST, 0), (1, 1))
        self.assertEqual(last_opener_share(20, 1, 0), (1, 20))
        self.assertEqual(last_opener_share(20, MOST, 19), (MOST, MOST + 19))
        self.assertEqual(rank_share(1, 1, 0, 0), (1, 1))
        self.assertEqual(rank_share(20, MOST, 0, 0), (1, 1))
        self.assertEqual(rank_share(20, MOST, 19, 19), pair(Fraction(MOST ** 20, rising_product(20, MOST))))
        self.assertEqual(rank_share(20, 1, 19, 18), (0, 1))
        self.assertEqual(rank_share(20, 1, 0, 19), (0, 1))
        self.assertEqual(rank_share(20, 1, 1, 19), (1, 380))

    def test_twenty_guests_add_up(self):
        for weight in (1, 6, MOST):
            self.assertEqual(sum(Fraction(*last_opener_share(20, weight, guest)) for guest in range(20)), 1)
            for guest in range(20):
                ranks = sum(Fraction(*rank_share(20, weight, rank, guest)) for rank in range(20))
                self.assertEqual(pair(ranks), opener_share(20, weight, guest))

    def test_a_group_of_openers_begins_with_0(self):
        for group in ([1], [3], [1, 2, 3]):
            self.assertRaises(InvalidGroup, count_openers, 4, group)
            self.assertRaises(InvalidGroup, openers_share, 4, 1, group)

    def test_wrong_guests_and_ranks(self):
        for guest in WRONG_FOR_FOUR:
            with self.subTest(guest=guest):
                self.assertRaises(InvalidGuest, opener_share, 4, 1, guest)
                self.assertRaises(InvalidGuest, last_opener_share, 4, 1, guest)
                self.assertRaises(InvalidGuest, rank_share, 4, 1, 0, guest)
                self.assertRaises(InvalidNumber, rank_share, 4, 1, guest, 0)
                self.assertRaises(InvalidNumber, rank_share, 4, 1, guest, 9)


class TogetherTest(unittest.TestCase):

    def test_the_example(self):
        self.assertEqual(together_share(4, 2, [1, 3]), (1, 3))
        self.assertEqual(together_share(4, 2, [0, 2, 3]), (1, 6))

    def test_groups_of_one_to_five_guests(self):
        for guests in range(1, 6):
            for group in subsets(range(guests)):
                for weight in (1, 2, 5):
                    self.check_group(guests, weight, group)

    def check_group(self, guests, weight, group):
        def tables(one):
            return len({table_with(one, guest) for guest in group})

        self.assertEqual(together_share(guests, weight, group),
                         plain_share(guests, weight, lambda one: tables(one) == 1))
        self.assertEqual(just_share(guests, weight, group),
                         plain_share(guests, weight, lambda one: sorted(table_with(one, group[0])) == group))
        self.assertEqual(tables_shares(guests, weight, group), [
            plain_share(guests, weight, lambda one: tables(one) == number) for number in range(len(group) + 1)])

    def test_splits_of_one_to_five_guests(self):
        for guests in range(1, 6):
            for members in subsets(range(guests)):
                for groups in partitions(members):
                    self.assertEqual(split_share(guests, 2, groups), plain_share(
                        guests, 2, lambda one: self.is_split(one, groups)))

    def is_split(self, one, groups):
        tables = [{table_with(one, guest) for guest in group} for group in groups]
        return all(len(some) == 1 for some in tables) and len(set().union(*tables)) == len(groups)

    def test_splits_with_other_weights(self):
        # Of two guests with the weight 3: together 3 / 12, apart 9 / 12.
        self.assertEqual(split_share(2, 3, [[0, 1]]), (1, 4))
        self.assertEqual(split_share(2, 3, [[1], [0]]), (3, 4))
        self.assertEqual(split_share(9, 1, [[8], [2, 5], [0, 1, 7]]), (1, 360))

    def test_edges(self):
        self.assertEqual(together_share(1, MOST, [0]), (1, 1))
        self.assertEqual(together_share(20, MOST, [19]), (1, 1))
        self.assertEqual(together_share(20, 1, ALONE), (1, 20))
        self.assertEqual(together_share(20, MOST, [0, 19]), (1, MOST + 1))
        self.assertEqual(just_share(1, 1, [0]), (1, 1))
        self.assertEqual(just_share(20, 1, ALONE), (1, 20))
        self.assertEqual(just_share(20, MOST, [19]), (MOST, MOST + 19))
        self.assertEqual(tables_shares(1, MOST, [0]), [(0, 1), (1, 1)])
        self.assertEqual(tables_shares(20, 2, [4, 19]), [(0, 1), (1, 3), (2, 3)])
        everything = tables_shares(20, 1, ALONE)
        self.assertEqual(everything[:2] + everything[20:], [(0, 1), (1, 20), (1, factorial(20))])
        self.assertEqual(sum(Fraction(*share) for share in tables_shares(20, MOST, ALONE)), 1)

    def test_twenty_groups(self):
        self.assertEqual(split_share(1, MOST, [[0]]), (1, 1))
        self.assertEqual(split_share(20, MOST, [[19]]), (1, 1))
        self.assertEqual(split_share(20, 1, [[guest] for guest in ALONE]), (1, factorial(20)))
        whole = rising_product(20, MOST)
        backwards = [[guest] for guest in reversed(ALONE)]
        self.assertEqual(split_share(20, MOST, backwards), pair(Fraction(MOST ** 20, whole)))
        self.assertEqual(split_share(20, 3, [ALONE]), together_share(20, 3, ALONE))
        self.assertEqual(split_share(20, MOST, [ALONE[10:], ALONE[:10]]),
                         pair(Fraction(MOST ** 2 * factorial(9) ** 2, whole)))


class GivenTablesTest(unittest.TestCase):

    def test_by_hand(self):
        # [(0,), (1, 2)], [(0, 1), (2,)] and [(0, 2), (1,)] have two tables.
        self.assertEqual(given_tables(3, 2, [0, 1]), (1, 3))
        self.assertEqual(given_tables(3, 2, [0, 1, 2]), (0, 1))
        self.assertEqual(given_tables(3, 1, [0, 1, 2]), (1, 1))

    def test_groups_of_one_to_six_guests(self):
        for guests in range(1, 7):
            for number in range(1, guests + 1):
                seatings = [one for one in all_seatings(guests) if len(plain_tables(one)) == number]
                for group in subsets(range(guests)):
                    some = [one for one in seatings if set(group) <= set(table_with(one, group[0]))]
                    self.assertEqual(given_tables(guests, number, group), share_of(some, seatings, 1))

    def test_edges(self):
        self.assertEqual(given_tables(1, 1, [0]), (1, 1))
        self.assertEqual(given_tables(20, 20, [19]), (1, 1))
        self.assertEqual(given_tables(20, 20, [0, 1]), (0, 1))
        self.assertEqual(given_tables(20, 1, ALONE), (1, 1))
        self.assertEqual(given_tables(20, 2, ALONE), (0, 1))
        self.assertEqual(given_tables(20, 19, [3, 8]), (1, 190))

    def test_wrong_numbers(self):
        for number in [0, -1, 5, 21, 10 ** 30] + NO_INTEGERS:
            with self.subTest(number=number):
                self.assertRaises(InvalidNumber, given_tables, 4, number, [0])
                self.assertRaises(InvalidNumber, given_tables, 4, number, [])


class StepsTest(unittest.TestCase):

    def test_by_hand(self):
        # Guest 0's table of four has 1, 2, 3, 4 guests in 48, 36, 24, 12 of 120.
        self.assertEqual(home_share(4, 2, 1), (2, 5))
        self.assertEqual(home_share(4, 2, -2), (7, 10))
        self.assertEqual(home_share(4, 2, 4), (4, 5))
        self.assertEqual(other_share(4, 2, 1), (1, 5))

    def test_all_of_one_to_five_guests(self):
        for guests in range(1, 6):
            for weight in (1, 3):
                for steps in range(-7, 13):
                    self.check_steps(guests, weight, steps)

    def check_steps(self, guests, weight, steps):
        for guest in (0, guests - 1):
            self.assertEqual(home_share(guests, weight, steps),
                             plain_share(guests, weight, lambda one: walk(one, guest, steps) == guest))
        for guest, mate in [(0, guests - 1), (guests - 1, 0), (guests - 2, guests - 1)]:
            if guests > 1:
                self.assertEqual(other_share(guests, weight, steps),
                                 plain_share(guests, weight, lambda one: walk(one, guest, steps) == mate))

    def test_one_guest(self):
        for steps in (0, 1, -1, 10 ** 30):
            self.assertEqual(home_share(1, MOST, steps), (1, 1))
            self.assertEqual(other_share(1, MOST, steps), (0, 1))

    def test_no_steps(self):
        self.assertEqual(home_share(20, MOST, 0), (1, 1))
        self.assertEqual(other_share(20, MOST, 0), (0, 1))

    def test_many_steps(self):
        # 10 ** 30 is divided by 1, 2, 4, 5, 8, 10, 16, 20, and each size has the share 1/20.
        for steps in (10 ** 30, -(10 ** 30)):
            self.assertEqual(home_share(20, 1, steps), (2, 5))
            self.assertEqual(other_share(20, 1, steps), (3, 95))
        self.assertEqual(home_share(20, MOST, 1), (MOST, MOST + 19))
        self.assertEqual(other_share(20, MOST, 1), (1, MOST + 19))
        self.assertEqual(home_share(20, MOST, factorial(20)), (1, 1))

    def test_wrong_steps(self):
        for steps in NO_INTEGERS:
            with self.subTest(steps=steps):
                self.assertRaises(InvalidNumber, home_share, 4, 1, steps)
                self.assertRaises(InvalidNumber, other_share, 4, 1, steps)
                self.assertRaises(InvalidNumber, other_share, 1, 1, steps)


class WrongArgumentsTest(unittest.TestCase):

    def test_groups(self):
        for thing in NO_GROUPS:
            with self.subTest(thing=thing):
                self.assertRaises(InvalidGroup, count_openers, 4, thing)
                self.assertRaises(InvalidGroup, given_tables, 4, 1, thing)
                for function in (openers_share, together_share, just_share, tables_shares):
                    self.assertRaises(InvalidGroup, function, 4, 1, thing)

    def test_lists_of_groups(self):
        for thing in NO_LISTS_OF_GROUPS:
            with self.subTest(thing=thing):
                self.assertRaises(InvalidGroups, split_share, 4, 1, thing)

    def test_guests_and_weights(self):
        functions = [
            (opener_share, -1), (openers_share, []), (last_opener_share, -1), (rank_share, -1, -1),
            (together_share, []), (just_share, []), (tables_shares, []), (split_share, []),
            (home_share, True), (other_share, True),
        ]
        for function, *rest in functions:
            with self.subTest(function=function.__name__):
                for guests in WRONG_GUESTS:
                    self.assertRaises(InvalidGuests, function, guests, 0, *rest)
                for weight in WRONG_WEIGHTS:
                    self.assertRaises(InvalidWeight, function, 4, weight, *rest)
        for guests in WRONG_GUESTS:
            self.assertRaises(InvalidGuests, count_openers, guests, [])
            self.assertRaises(InvalidGuests, given_tables, guests, 0, [])


if __name__ == "__main__":
    unittest.main()
