"""[6], and what [3] says of seatings: the forms of a seating."""

import unittest

from newtables.errors import InvalidGuest, InvalidNames, InvalidNumber, InvalidSeating, InvalidTables
from newtables.seatings import (
    are_together, is_seating, mirrored, record_list, renamed, right_of, seating_of, seating_of_records,
    steps_left, table_from, tables_of,
)
from tests.helpers import NO_INTEGERS, NO_LISTS_OF_GUESTS, all_seatings, plain_tables

EXAMPLE = [1, 3, 2, 0]
ALONE = list(range(20))
RING = list(range(1, 20)) + [0]

NO_TABLES = [
    [()], [(0,), ()], [[0]], [[0, 1]], [(0,), [1]], ((0,),), ((0,), (1,)), [(True,)], [(False,)],
    [(0, True)], [(0,), (True,)], [(1, 0)], [(1,), (0,)], [(0,), (0,)], [(0, 0)], [(0, 1, 1)],
    [(0, 1), (1,)], [(0, 2)], [(1,)], [(-1,)], [(-1, 0)], [(0,), None], [(0,), 1], [("0",)],
    [(0, "1")], [((0,),)], [([0],)], [(0, None)], [(2,), (0, 1)], [(0, 1), (3, 2)], [(0, 1), (2, 4)],
    [tuple(range(21))], [(guest,) for guest in range(21)], [(0, 10 ** 30)], {"0": (0,)}, [{}],
]


class SeatingTest(unittest.TestCase):

    def test_lists_with_each_guest_once_are_seatings(self):
        for seating in [[0], [1, 0], EXAMPLE, ALONE, RING]:
            self.assertIs(is_seating(seating), True)
        for guests in range(1, 6):
            for seating in all_seatings(guests):
                self.assertIs(is_seating(seating), True)

    def test_nothing_else_is_a_seating(self):
        for thing in NO_LISTS_OF_GUESTS:
            with self.subTest(thing=thing):
                self.assertIs(is_seating(thing), False)

    def test_twenty_guests_are_the_most(self):
        self.assertTrue(is_seating(list(range(20))))
        self.assertFalse(is_seating(list(range(21))))
        self.assertFalse(is_seating(list(range(1, 21)) + [0]))

    def test_deep_and_wide_objects_are_no_seatings(self):
        deep = [0]
        for _ in range(19):
            deep = [deep]
        self.assertFalse(is_seating(deep))
        self.assertFalse(is_seating({"a": [0]}))
        self.assertFalse(is_seating(list(range(1999))))

    def test_each_function_names_an_invalid_seating(self):
        calls = [
            lambda thing: tables_of(thing), lambda thing: table_from(thing, 0), lambda thing: right_of(thing, 0),
            lambda thing: steps_left(thing, 0, 1), lambda thing: are_together(thing, 0, 0),
            lambda thing: mirrored(thing), lambda thing: renamed(thing, [0]), lambda thing: record_list(thing),
        ]
        for thing in NO_LISTS_OF_GUESTS:
            for at, call in enumerate(calls):
                with self.subTest(thing=thing, call=at), self.assertRaises(InvalidSeating):
                    call(thing)


class TablesTest(unittest.TestCase):

    def test_the_example(self):
        self.assertEqual(tables_of(EXAMPLE), [(0, 1, 3), (2,)])
        self.assertEqual(seating_of([(0, 1, 3), (2,)]), EXAMPLE)

    def test_one_and_twenty_guests(self):
        self.assertEqual(tables_of([0]), [(0,)])
        self.assertEqual(seating_of([(0,)]), [0])
        self.assertEqual(tables_of(ALONE), [(guest,) for guest in range(20)])
        self.assertEqual(seating_of([(guest,) for guest in range(20)]), ALONE)
        self.assertEqual(tables_of(RING), [tuple(range(20))])
        self.assertEqual(seating_of([tuple(range(20))]), RING)

    def test_there_and_back_for_all_seatings(self):
        for guests in range(1, 7):
            for seating in all_seatings(guests):
                self.assertEqual(tables_of(seating), plain_tables(seating))
                self.assertEqual(seating_of(plain_tables(seating)), seating)

    def test_tables_are_a_list_of_tuples(self):
        self.assertIs(type(tables_of(EXAMPLE)), list)
        self.assertEqual([type(table) for table in tables_of(EXAMPLE)], [tuple, tuple])

    def test_invalid_tables(self):
        no_lists_of_tables = [thing for thing in NO_LISTS_OF_GUESTS if thing != [(0,)]]
        for thing in no_lists_of_tables + NO_TABLES + [EXAMPLE]:
            with self.subTest(thing=thing), self.assertRaises(InvalidTables):
                seating_of(thing)


class NeighboursTest(unittest.TestCase):

    def test_table_from_each_guest(self):
        self.assertEqual(table_from(EXAMPLE, 0), (0, 1, 3))
        self.assertEqual(table_from(EXAMPLE, 1), (1, 3, 0))
        self.assertEqual(table_from(EXAMPLE, 3), (3, 0, 1))
        self.assertEqual(table_from(EXAMPLE, 2), (2,))
        self.assertEqual(table_from([0], 0), (0,))
        self.assertEqual(table_from(RING, 19), (19,) + tuple(range(19)))

    def test_right_of_is_the_other_way(self):
        self.assertEqual([right_of(EXAMPLE, guest) for guest in range(4)], [3, 0, 2, 1])
        self.assertEqual(right_of([0], 0), 0)
        self.assertEqual(right_of(RING, 0), 19)
        for seating in all_seatings(5):
            self.assertEqual([right_of(seating, seating[guest]) for guest in range(5)], list(range(5)))

    def test_steps_left(self):
        self.assertEqual([steps_left(EXAMPLE, 0, number) for number in range(-4, 5)], [3, 0, 1, 3, 0, 1, 3, 0, 1])
        self.assertEqual([steps_left(EXAMPLE, 2, number) for number in (-1, 0, 1)], [2, 2, 2])
        self.assertEqual(steps_left(EXAMPLE, 1, 1), 3)
        self.assertEqual(steps_left(EXAMPLE, 1, -1), 0)

    def test_steps_of_31_digits(self):
        many = 10 ** 31 - 1
        self.assertEqual(many % 20, 19)
        self.assertEqual(steps_left(RING, 0, many), 19)
        self.assertEqual(steps_left(RING, 0, -many), 1)
        self.assertEqual(steps_left(EXAMPLE, 3, many), 3)
        self.assertEqual(steps_left(EXAMPLE, 3, 10 ** 30), 0)
        self.assertEqual(steps_left(EXAMPLE, 3, -(10 ** 30)), 1)
        self.assertEqual(steps_left([0], 0, many), 0)

    def test_are_together(self):
        together = [(guest, mate) for guest in range(4) for mate in range(4) if are_together(EXAMPLE, guest, mate)]
        self.assertEqual(together, [(0, 0), (0, 1), (0, 3), (1, 0), (1, 1), (1, 3), (2, 2), (3, 0), (3, 1), (3, 3)])
        self.assertIs(are_together(EXAMPLE, 2, 2), True)
        self.assertIs(are_together(EXAMPLE, 0, 2), False)
        self.assertIs(are_together([0], 0, 0), True)
        self.assertIs(are_together(RING, 0, 19), True)
        self.assertIs(are_together(ALONE, 0, 19), False)

    def test_invalid_guests(self):
        for guest in [-1, 4, 20, 10 ** 30, -(10 ** 30)] + NO_INTEGERS:
            with self.subTest(guest=guest):
                self.assertRaises(InvalidGuest, table_from, EXAMPLE, guest)
                self.assertRaises(InvalidGuest, right_of, EXAMPLE, guest)
                self.assertRaises(InvalidGuest, steps_left, EXAMPLE, guest, 1)
                self.assertRaises(InvalidGuest, are_together, EXAMPLE, guest, 0)
                self.assertRaises(InvalidGuest, are_together, EXAMPLE, 0, guest)
        self.assertRaises(InvalidGuest, table_from, [0], 1)
        self.assertRaises(InvalidGuest, right_of, RING, 20)

    def test_steps_that_are_no_integers(self):
        for number in NO_INTEGERS:
            with self.subTest(number=number):
                self.assertRaises(InvalidNumber, steps_left, EXAMPLE, 0, number)

    def test_the_first_wrong_argument_decides(self):
        self.assertRaises(InvalidSeating, table_from, (0,), -1)
        self.assertRaises(InvalidSeating, right_of, [True], 9)
        self.assertRaises(InvalidSeating, steps_left, [0, 0], 7, True)
        self.assertRaises(InvalidSeating, are_together, [], -1, -1)
        self.assertRaises(InvalidGuest, steps_left, EXAMPLE, 4, True)


class ChangedTest(unittest.TestCase):

    def test_mirrored(self):
        self.assertEqual(mirrored(EXAMPLE), [3, 0, 2, 1])
        self.assertEqual(mirrored([0]), [0])
        self.assertEqual(mirrored(ALONE), ALONE)
        self.assertEqual(mirrored(RING), [19] + list(range(19)))
        for seating in all_seatings(5):
            turned = mirrored(seating)
            self.assertEqual([turned[seating[guest]] for guest in range(5)], list(range(5)))
            self.assertEqual(mirrored(turned), seating)

    def test_renamed(self):
        self.assertEqual(renamed(EXAMPLE, [0, 1, 2, 3]), EXAMPLE)
        # The tables (0, 1, 3) and (2,) become those of 2, 0, 1 and of 3.
        self.assertEqual(renamed(EXAMPLE, [2, 0, 3, 1]), [1, 2, 0, 3])
        self.assertEqual(renamed([0], [0]), [0])
        self.assertEqual(renamed(RING, ALONE[::-1]), [19] + list(range(19)))
        for seating in all_seatings(4):
            for names in all_seatings(4):
                new = renamed(seating, names)
                self.assertEqual([new[names[guest]] for guest in range(4)], [names[left] for left in seating])

    def test_invalid_names(self):
        for names in NO_LISTS_OF_GUESTS:
            with self.subTest(names=names):
                self.assertRaises(InvalidNames, renamed, EXAMPLE, names)
        for names in ([0], [0, 1, 2], [4, 0, 1, 2, 3], (0, 1, 2, 3), [0, 1, 2, 4], [0, True, 2, 3]):
            self.assertRaises(InvalidNames, renamed, EXAMPLE, names)
        self.assertRaises(InvalidSeating, renamed, (0,), (0,))


class RecordsTest(unittest.TestCase):

    def test_the_example(self):
        self.assertEqual(record_list(EXAMPLE), [2, 0, 1, 3])
        self.assertEqual(seating_of_records([2, 0, 1, 3]), EXAMPLE)

    def test_one_and_twenty_guests(self):
        self.assertEqual(record_list([0]), [0])
        self.assertEqual(seating_of_records([0]), [0])
        self.assertEqual(record_list(ALONE), ALONE[::-1])
        self.assertEqual(seating_of_records(ALONE[::-1]), ALONE)
        self.assertEqual(record_list(RING), ALONE)
        self.assertEqual(seating_of_records(ALONE), RING)

    def test_tables_fall_and_keep_their_sequence(self):
        self.assertEqual(record_list(seating_of([(0, 4, 2), (1, 3), (5,)])), [5, 1, 3, 0, 4, 2])

    def test_each_list_comes_from_one_seating(self):
        for guests in range(1, 7):
            seatings = all_seatings(guests)
            lists = [record_list(seating) for seating in seatings]
            self.assertEqual(sorted(lists), seatings)
            self.assertEqual([seating_of_records(names) for names in lists], seatings)

    def test_invalid_names(self):
        for names in NO_LISTS_OF_GUESTS:
            with self.subTest(names=names), self.assertRaises(InvalidNames):
                seating_of_records(names)


if __name__ == "__main__":
    unittest.main()
