"""[17] and R7: exchanges, distances, paths, what lies between two seatings, and chains."""

import unittest
from itertools import combinations, product
from math import comb, factorial

from newtables.errors import (
    HallError, InvalidDistances, InvalidGuest, InvalidGuests, InvalidNumber, InvalidSeating,
)
from newtables.paths import (
    a_between, a_path, between_at, count_at, count_between, count_chains, count_paths, distance, exchanged, is_between,
    shows_path,
)
from tests.helpers import NO_INTEGERS, NO_LISTS_OF_GUESTS, WRONG_GUESTS, all_seatings, plain_tables

ALONE = list(range(20))
RING = list(range(1, 20)) + [0]
PAIRS = [guest ^ 1 for guest in range(20)]
# Six rings of three and one of two: the most kinds of what is left on the way.
THREES = [guest - 2 if guest in range(2, 18, 3) else guest + 1 for guest in range(18)] + [19, 18]
WRONG_NUMBERS = [-1, 10 ** 30, -(10 ** 30)] + NO_INTEGERS


def plain_exchanged(seating, guest, mate):
    mates = {guest: mate, mate: guest}
    return [seating[mates.get(one, one)] for one in range(len(seating))]


def search(seating):
    """By search along exchanges: for each seating how far it is, and how many shortest ways lead there."""
    steps = {tuple(seating): 0}
    ways = {tuple(seating): 1}
    front = [tuple(seating)]
    while front:
        further = []
        for one in front:
            for guest, mate in combinations(range(len(seating)), 2):
                there = tuple(plain_exchanged(one, guest, mate))
                if there not in steps:
                    steps[there] = steps[one] + 1
                    ways[there] = 0
                    further.append(there)
                if steps[there] == steps[one] + 1:
                    ways[there] += ways[one]
        front = further
    return steps, ways


FOUND = {tuple(one): search(one) for guests in range(1, 6) for one in all_seatings(guests)[::1 if guests < 5 else 11]}
# For each seating those at each distance, filled by need.
FOUND_BY_STEP = {}


def found_pairs():
    """Pairs of seatings with how far they are apart; for five guests some of them."""
    for first, (steps, _) in FOUND.items():
        for second in list(steps)[::1 if len(first) < 5 else 7]:
            yield list(first), list(second), steps[second]


class SearchTest(unittest.TestCase):

    def test_all_seatings_are_found(self):
        for first, (steps, _) in FOUND.items():
            self.assertEqual(len(steps), factorial(len(first)))

    def test_exchanges(self):
        for first in FOUND:
            for guest, mate in product(range(len(first)), repeat=2):
                now = exchanged(list(first), guest, mate)
                self.assertEqual(now, plain_exchanged(first, guest, mate))
                # R7: one table more or less.
                change = len(plain_tables(now)) - len(plain_tables(first))
                self.assertEqual(abs(change), 0 if guest == mate else 1)

    def test_distances_and_paths(self):
        for first, (steps, ways) in FOUND.items():
            for second in steps:
                self.assertEqual(distance(list(first), list(second)), steps[second])
                self.assertEqual(count_paths(list(first), list(second)), ways[second])

    def test_a_path(self):
        for first, second, steps in found_pairs():
            with self.subTest(first=first, second=second):
                path = a_path(first, second)
                self.assertEqual(len(path), steps)
                now = first
                for guest, mate in path:
                    self.assertLess(guest, mate)
                    now = plain_exchanged(now, guest, mate)
                self.assertEqual(now, second)
                self.assertIs(shows_path(first, second, path), True)
                self.assertEqual(a_path(list(first), list(second)), path)

    def test_all_that_are_paths(self):
        for guests in (1, 2, 3):
            exchanges = list(combinations(range(guests), 2))
            for first, second in product(all_seatings(guests), repeat=2):
                shown = 0
                for many in range(5):
                    for path in product(exchanges, repeat=many):
                        now = first
                        for guest, mate in path:
                            now = plain_exchanged(now, guest, mate)
                        right = now == second and many == FOUND[tuple(first)][0][tuple(second)]
                        self.assertIs(shows_path(first, second, list(path)), right)
                        shown += right
                self.assertEqual(shown, count_paths(first, second))

    def test_between(self):
        for first, second, steps in found_pairs():
            with self.subTest(first=first, second=second):
                there = FOUND[tuple(first)][0]
                back = search(second)[0] if tuple(second) not in FOUND else FOUND[tuple(second)][0]
                between = [one for one in there if there[one] + back[one] == steps]
                at = [there[one] for one in between]
                self.assertEqual(count_between(first, second), len(between))
                self.assertEqual(between_at(first, second), [at.count(step) for step in range(steps + 1)])
                for third in list(there)[::1 if len(first) < 5 else 13]:
                    self.assertIs(is_between(first, second, list(third)), third in between)
                for step in range(steps + 1):
                    third = a_between(first, second, step)
                    self.assertIn(tuple(third), between)
                    self.assertEqual(there[tuple(third)], step)
                    self.assertEqual(a_between(list(first), list(second), step), third)
                for step in (-1, steps + 1):
                    self.assertRaises(InvalidNumber, a_between, first, second, step)

    def test_chains(self):
        lists = [list(one) for many in range(5) for one in product(range(1, 5), repeat=many) if sum(one) <= 5]
        small = [one for one in found_pairs() if len(one[0]) < 5]
        large = [one for one in found_pairs() if len(one[0]) == 5]
        for first, second, steps in small[::3] + large[::17]:
            for distances in lists:
                with self.subTest(first=first, second=second, distances=distances):
                    expected = self.plain_chains(first, second, distances) if sum(distances) == steps else 0
                    self.assertEqual(count_chains(first, second, distances), expected)

    def plain_chains(self, first, second, distances):
        """Step by step, over all seatings."""
        ends = {tuple(first): 1}
        for step in distances:
            further = {}
            for one, ways in ends.items():
                for there in self.those_at(one, step):
                    further[there] = further.get(there, 0) + ways
            ends = further
        return ends.get(tuple(second), 0)

    def those_at(self, one, step):
        if one not in FOUND_BY_STEP:
            FOUND_BY_STEP[one] = {}
            for there, far in search(one)[0].items():
                FOUND_BY_STEP[one].setdefault(far, []).append(there)
        return FOUND_BY_STEP[one].get(step, [])

    def test_numbers_at_distances(self):
        for first, (steps, _) in FOUND.items():
            far = list(steps.values())
            self.assertEqual([count_at(len(first), number) for number in range(len(first))],
                             [far.count(number) for number in range(len(first))])


class ByHandTest(unittest.TestCase):

    def test_the_examples(self):
        alone, ring = [0, 1, 2, 3], [1, 2, 3, 0]
        self.assertEqual(between_at(alone, ring), [1, 6, 6, 1])
        self.assertEqual(count_chains(alone, ring, [1, 1, 1]), 16)
        self.assertEqual(count_chains(alone, ring, [1, 2]), 6)
        self.assertEqual(count_paths(alone, ring), 16)
        self.assertEqual(distance(alone, ring), 3)

    def test_one_guest(self):
        self.assertEqual(exchanged([0], 0, 0), [0])
        self.assertEqual(distance([0], [0]), 0)
        self.assertEqual(count_paths([0], [0]), 1)
        self.assertEqual(a_path([0], [0]), [])
        self.assertIs(shows_path([0], [0], []), True)
        self.assertIs(is_between([0], [0], [0]), True)
        self.assertEqual(count_between([0], [0]), 1)
        self.assertEqual(between_at([0], [0]), [1])
        self.assertEqual(a_between([0], [0], 0), [0])
        self.assertEqual(count_chains([0], [0], []), 1)
        self.assertEqual(count_chains([0], [0], [1]), 0)
        self.assertEqual(count_at(1, 0), 1)

    def test_two_alike_seatings(self):
        for seating in (RING, PAIRS, ALONE):
            self.assertEqual(distance(seating, list(seating)), 0)
            self.assertEqual(count_paths(seating, list(seating)), 1)
            self.assertEqual(a_path(seating, list(seating)), [])
            self.assertIs(shows_path(seating, seating, []), True)
            self.assertIs(shows_path(seating, seating, [(0, 1), (0, 1)]), False)
            self.assertEqual(between_at(seating, seating), [1])
            self.assertIs(is_between(seating, seating, seating), True)
            self.assertIs(is_between(seating, seating, exchanged(seating, 3, 17)), False)
            self.assertEqual(a_between(seating, seating, 0), seating)
            self.assertEqual(count_chains(seating, seating, []), 1)
            self.assertEqual(count_chains(seating, seating, [1]), 0)

    def test_the_greatest_distance(self):
        self.assertEqual(distance(ALONE, RING), 19)
        self.assertEqual(count_paths(ALONE, RING), 20 ** 18)
        self.assertEqual(count_between(ALONE, RING), comb(40, 20) // 21)
        between = between_at(ALONE, RING)
        self.assertEqual(between, [comb(20, step) * comb(20, step + 1) // 20 for step in range(20)])
        self.assertEqual(between, between[::-1])
        self.assertEqual(count_chains(ALONE, RING, [1] * 19), 20 ** 18)
        self.assertEqual(count_chains(ALONE, RING, [19]), 1)
        self.assertEqual(count_chains(RING, ALONE, [7, 12]), between[7])
        self.assertEqual(len(a_path(RING, ALONE)), 19)
        self.assertEqual(a_between(ALONE, RING, 19), RING)
        self.assertEqual(a_between(ALONE, RING, 0), ALONE)
        self.assertEqual(count_at(20, 19), factorial(19))
        self.assertEqual(count_at(20, 0), 1)
        self.assertEqual(count_at(20, 1), comb(20, 2))
        self.assertEqual(sum(count_at(20, number) for number in range(20)), factorial(20))

    def test_rings_of_several_sizes(self):
        for first, second in ((ALONE, PAIRS), (ALONE, THREES), (RING, PAIRS), (PAIRS, THREES), (RING, RING[::-1])):
            steps = distance(first, second)
            self.assertEqual(len(a_path(first, second)), steps)
            self.assertIs(shows_path(first, second, a_path(first, second)), True)
            # A path is a chain of single steps, and what lies between a chain of two distances.
            self.assertEqual(count_chains(first, second, [1] * steps), count_paths(first, second))
            between = between_at(first, second)
            for step in range(1, steps):
                self.assertEqual(count_chains(first, second, [step, steps - step]), between[step])
                third = a_between(first, second, step)
                self.assertIs(is_between(first, second, third), True)
                self.assertEqual(distance(first, third), step)
            self.assertEqual(count_between(first, second), sum(between))
            self.assertEqual(between[0], 1)
            self.assertEqual(between[-1], 1)
        self.assertEqual(count_paths(ALONE, PAIRS), factorial(10))
        self.assertEqual(count_paths(ALONE, THREES), factorial(13) // 2 ** 6 * 3 ** 6)
        self.assertEqual(between_at(ALONE, PAIRS), [comb(10, step) for step in range(11)])
        self.assertEqual(count_chains(ALONE, PAIRS, [3, 3, 4]), factorial(10) // (6 * 6 * 24))

    def test_distances(self):
        self.assertEqual(count_chains(ALONE, RING, [1] * 20), 0)
        self.assertEqual(count_chains(ALONE, RING, [1] * 18), 0)
        self.assertEqual(count_chains(ALONE, RING, []), 0)
        self.assertEqual(count_chains(ALONE, RING, [20]), 0)
        self.assertEqual(count_chains(ALONE, RING, [10 ** 30, 19]), 0)
        self.assertRaises(InvalidDistances, count_chains, ALONE, RING, [1] * 21)
        self.assertEqual(count_chains([1, 0, 2], [1, 0, 2], [1] * 20), 0)

    def test_exchanged_is_new(self):
        for guest in (0, 2):
            seating = [1, 2, 0]
            now = exchanged(seating, guest, guest)
            self.assertEqual(now, seating)
            self.assertIsNot(now, seating)


class AnyObjectTest(unittest.TestCase):

    def test_what_is_no_path(self):
        first, second = [0, 1, 2, 3], [1, 2, 0, 3]
        self.assertIs(shows_path(first, second, [(0, 1), (1, 2)]), True)
        for thing in NO_LISTS_OF_GUESTS + [
            [(1, 0), (1, 2)], [(0, 1), (2, 1)], [[0, 1], [1, 2]], ((0, 1), (1, 2)), [(0, 1)], [(0, 1), (1, 2), (1, 2)],
            [(0, 1), (1, 2), (2, 3), (2, 3)], [(0, 1, 2), (1, 2)], [(0,), (1, 2)], [(0, 1), ()], [(0, 1), (1, 4)],
            [(-1, 0), (1, 2)], [(False, True), (1, 2)], [(0, True), (1, 2)], [(0, 1), None], [(0, 1), "12"],
            [("0", "1"), (1, 2)], [(0, 1), (1, [2])], [(0, 1), {}], {"0": (0, 1)}, [(0, 0), (1, 1)], [(0, 1), (0, 1)],
            [(0, 1), (2, 10 ** 30)], HallError("path"), [(0, HallError("1")), (1, 2)], [(0, 1)] * 2000, [], "",
            [()] * 2,
        ]:
            with self.subTest(thing=thing):
                self.assertIs(shows_path(first, second, thing), False)


    def test_guests_in_other_forms(self):
        alone, second = [0, 1, 2, 3], [3, 1, 2, 0]
        self.assertIs(shows_path(alone, second, [(0, 3)]), True)
        for thing in ([(-1, 0)], [(0, -1)], [(-4, -1)], [(-4, 3)], [(3, 0)], [(False, 3)], [("0", "3")], [[0, 3]]):
            self.assertIs(shows_path(alone, second, thing), False)
        self.assertIs(shows_path([0, 1], [1, 0], [(0, 1)]), True)
        self.assertIs(shows_path([0, 1], [1, 0], [(0, True)]), False)


class WrongArgumentsTest(unittest.TestCase):

    def test_wrong_seatings(self):
        seating = [1, 0, 2]
        for wrong in NO_LISTS_OF_GUESTS:
            with self.subTest(wrong=wrong):
                self.assertRaises(InvalidSeating, exchanged, wrong, 0, 0)
                for function in (distance, count_paths, a_path, count_between, between_at):
                    self.assertRaises(InvalidSeating, function, wrong, seating)
                    self.assertRaises(InvalidSeating, function, seating, wrong)
                for function, more in ((shows_path, []), (a_between, 0), (count_chains, []), (is_between, seating)):
                    self.assertRaises(InvalidSeating, function, wrong, seating, more)
                    self.assertRaises(InvalidSeating, function, seating, wrong, more)
                self.assertRaises(InvalidSeating, is_between, seating, seating, wrong)

    def test_unlike_numbers_of_guests(self):
        for first, second in (([0], [0, 1]), ([0, 1], [0]), (ALONE, ALONE[:19]), (ALONE[:19], ALONE)):
            for function in (distance, count_paths, a_path, count_between, between_at):
                self.assertRaises(InvalidSeating, function, first, second)
            for function, more in ((shows_path, []), (a_between, 0), (count_chains, []), (is_between, first)):
                self.assertRaises(InvalidSeating, function, first, second, more)
            self.assertRaises(InvalidSeating, is_between, first, first, second)

    def test_wrong_guests(self):
        for guest in [3, -1, 10 ** 30] + NO_INTEGERS:
            self.assertRaises(InvalidGuest, exchanged, [1, 2, 0], guest, 0)
            self.assertRaises(InvalidGuest, exchanged, [1, 2, 0], 0, guest)
        for guests in WRONG_GUESTS:
            self.assertRaises(InvalidGuests, count_at, guests, 0)

    def test_wrong_numbers(self):
        for number in WRONG_NUMBERS + [2]:
            self.assertRaises(InvalidNumber, a_between, [0, 1], [1, 0], number)
            self.assertRaises(InvalidNumber, count_at, 2, number)

    def test_wrong_distances(self):
        for distances in [None, True, 0, 1, "", "1", (), (1,), {}, {"1": 1}, [0], [-1], [1, 0], [True], [False], [None],
                          ["1"], [[1]], [(1,)], [1, -1, 1], [1] * 21, [1] * 2000, [{}], HallError("1"), [1, True]]:
            with self.subTest(distances=distances):
                self.assertRaises(InvalidDistances, count_chains, [0, 1], [1, 0], distances)


if __name__ == "__main__":
    unittest.main()
