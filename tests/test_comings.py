"""[7], and what [3] says of coming lists."""

import unittest

from newtables.comings import coming_of, hall_of, is_coming, openers_of, seating_by
from newtables.errors import InvalidComing, InvalidNumber, InvalidSeating
from tests.helpers import NO_COMINGS, NO_INTEGERS, NO_LISTS_OF_GUESTS, all_comings, all_seatings, plain_tables

ALONE = list(range(20))


def sit_down(coming):
    """The seating by tables that grow: a newcomer stands behind its right neighbour in the tuple."""
    tables = []
    for guest, right in enumerate(coming):
        if right == guest:
            tables.append([guest])
        else:
            table = next(table for table in tables if right in table)
            table.insert(table.index(right) + 1, guest)
    left = {table[at - 1]: guest for table in tables for at, guest in enumerate(table)}
    return [left[guest] for guest in range(len(coming))]


class ComingTest(unittest.TestCase):

    def test_coming_lists(self):
        for coming in [[0], [0, 0], [0, 1], [0, 0, 2, 1], [0] * 20, ALONE]:
            self.assertIs(is_coming(coming), True)
        for guests in range(1, 6):
            for coming in all_comings(guests):
                self.assertIs(is_coming(coming), True)

    def test_nothing_else_is_one(self):
        for thing in NO_COMINGS:
            with self.subTest(thing=thing):
                self.assertIs(is_coming(thing), False)

    def test_the_example(self):
        self.assertEqual(seating_by([0, 0, 2, 1]), [1, 3, 2, 0])
        self.assertEqual(coming_of([1, 3, 2, 0]), [0, 0, 2, 1])

    def test_a_newcomer_sits_left_of_its_mate(self):
        # Guest 2 sits down left of 0, so 1, who was left of 0 before, is left of 2 then.
        self.assertEqual(seating_by([0, 0, 0]), [2, 0, 1])
        self.assertEqual(seating_by([0, 0, 1]), [1, 2, 0])
        self.assertEqual(coming_of([2, 0, 1]), [0, 0, 0])

    def test_one_and_twenty_guests(self):
        self.assertEqual(seating_by([0]), [0])
        self.assertEqual(coming_of([0]), [0])
        self.assertEqual(seating_by(ALONE), ALONE)
        self.assertEqual(coming_of(ALONE), ALONE)
        self.assertEqual(seating_by([0] * 20), [19] + list(range(19)))
        self.assertEqual(coming_of([19] + list(range(19))), [0] * 20)
        self.assertEqual(seating_by([0] + list(range(19))), list(range(1, 20)) + [0])
        self.assertEqual(coming_of(list(range(1, 20)) + [0]), [0] + list(range(19)))

    def test_each_coming_list_leads_to_one_seating(self):
        for guests in range(1, 7):
            comings = all_comings(guests)
            seatings = [seating_by(coming) for coming in comings]
            self.assertEqual(seatings, [sit_down(coming) for coming in comings])
            self.assertEqual(sorted(seatings), all_seatings(guests))
            self.assertEqual([coming_of(seating) for seating in seatings], comings)

    def test_invalid_arguments(self):
        for thing in NO_COMINGS:
            with self.subTest(thing=thing):
                self.assertRaises(InvalidComing, seating_by, thing)
                self.assertRaises(InvalidComing, hall_of, thing, 1)
        for thing in NO_LISTS_OF_GUESTS:
            with self.subTest(thing=thing):
                self.assertRaises(InvalidSeating, coming_of, thing)
                self.assertRaises(InvalidSeating, openers_of, thing)


class OpenersTest(unittest.TestCase):

    def test_openers_are_the_least_of_their_tables(self):
        self.assertEqual(openers_of([1, 3, 2, 0]), [0, 2])
        self.assertEqual(openers_of([0]), [0])
        self.assertEqual(openers_of(ALONE), ALONE)
        self.assertEqual(openers_of([19] + list(range(19))), [0])
        for seating in all_seatings(5):
            self.assertEqual(openers_of(seating), [table[0] for table in plain_tables(seating)])

    def test_openers_have_their_own_number_in_the_coming_list(self):
        for coming in all_comings(5):
            own = [guest for guest in range(5) if coming[guest] == guest]
            self.assertEqual(openers_of(seating_by(coming)), own)

    def test_just_0_and_2_open_in_three_seatings(self):
        self.assertEqual(len([1 for seating in all_seatings(4) if openers_of(seating) == [0, 2]]), 3)


class HallOfTest(unittest.TestCase):

    def test_the_first_guests(self):
        coming = [0, 0, 2, 1]
        self.assertEqual([hall_of(coming, number) for number in (1, 2, 3, 4)],
                         [[0], [1, 0], [1, 0, 2], [1, 3, 2, 0]])
        self.assertEqual(hall_of([0], 1), [0])
        self.assertEqual(hall_of(ALONE, 20), ALONE)
        self.assertEqual(hall_of(ALONE, 19), ALONE[:19])

    def test_invalid_numbers(self):
        for number in [0, -1, 5, 20, 10 ** 30, -(10 ** 30)] + NO_INTEGERS:
            with self.subTest(number=number):
                self.assertRaises(InvalidNumber, hall_of, [0, 0, 2, 1], number)
        self.assertRaises(InvalidNumber, hall_of, [0], 2)
        self.assertRaises(InvalidNumber, hall_of, ALONE, 21)

    def test_the_first_wrong_argument_decides(self):
        self.assertRaises(InvalidComing, hall_of, [1], 0)
        self.assertRaises(InvalidComing, hall_of, (0,), True)


if __name__ == "__main__":
    unittest.main()
