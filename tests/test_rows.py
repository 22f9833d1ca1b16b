"""[12]: seatings with told facts."""

import unittest
from fractions import Fraction
from itertools import combinations
from math import factorial

from newtables.errors import (
    HallError, InvalidFacts, InvalidGuests, InvalidIndex, InvalidSeating, InvalidWeight, NoSeating,
)
from newtables.rows import (
    best_question, can_hold, count_with, hold_paper, index_with, next_share, nth_with, share_with, sure_neighbours,
    tables_with, weight_with,
)
from tests.helpers import (
    MOST, NO_INTEGERS, NO_LISTS_OF_GUESTS, WRONG_GUESTS, WRONG_WEIGHTS, all_seatings, pair, plain_openers,
    plain_tables, rising_product, share_of, weigh,
)

ALONE = list(range(20))
WRONG_INDICES = [-1, 10 ** 30, -(10 ** 30)] + NO_INTEGERS

# No facts of four guests.
NO_FACTS = [
    None, True, False, 0, 10 ** 30, "", "left", "open 0", (), [], {}, {"open": 0}, HallError("open"),
    ("left",), ("open",), ("sit",), ("left", 0), ("left", 0, 1, 2), ("open", 0, 1), ("sit", 0, 1), ("open", ()),
    ("left", 0, 4), ("left", 4, 0), ("left", -1, 0), ("left", 0, -1), ("open", 4), ("sit", 4), ("open", -1),
    ("left", 0, True), ("left", False, 1), ("open", True), ("sit", False), ("open", None), ("sit", "0"),
    ("left", 0, "1"), ("open", [0]), ("sit", (0,)), ("open", 10 ** 30), ("Left", 0, 1), ("right", 0, 1),
    ("opens", 0), ("", 0), ("stand", 0), ("left ", 0, 1), (0, "open"), (None, 0), (["open"], 0), ({}, 0), (0, 1),
    ["open", 0], ["left", 0, 1], (("open", 0),), ("open", {}), (True, 0),
]
NO_LISTS_OF_FACTS = [fact for fact in NO_FACTS if fact != []] + [[fact] for fact in NO_FACTS] + [
    [("open", 0), ("open", 0)], [("left", 0, 1), ("sit", 1), ("left", 0, 1)], [("open", 0), None],
    (("open", 0), ("sit", 1)), [("open", 0), ["sit", 1]], [[("open", 0)]], [("open", 0)] * 2000,
]


def all_facts(guests):
    lefts = [("left", guest, left) for guest in range(guests) for left in range(guests)]
    return lefts + [(word, guest) for word in ("open", "sit") for guest in range(guests)]


def facts_of(seating):
    """All facts that a seating has."""
    openers = plain_openers(seating)
    told = {("left", guest, left) for guest, left in enumerate(seating)}
    return told | {("open" if guest in openers else "sit", guest) for guest in range(len(seating))}


FACTS_OF = {tuple(one): facts_of(one) for guests in range(1, 6) for one in all_seatings(guests)}


def with_all(guests, facts):
    return [one for one in all_seatings(guests) if set(facts) <= FACTS_OF[tuple(one)]]


def some_lists_of_facts():
    """For up to three guests all lists of up to three facts, for four and five guests some longer ones."""
    for guests in (1, 2, 3):
        for many in range(4):
            for facts in combinations(all_facts(guests), many):
                yield guests, list(facts)
    for guests, many, step in ((4, 1, 1), (4, 2, 5), (4, 3, 31), (4, 5, 997), (5, 2, 29), (5, 3, 199), (5, 4, 1999)):
        for facts in list(combinations(all_facts(guests), many))[::step]:
            # A turned list has its contradictions elsewhere.
            yield guests, list(facts)[::-1]


class AllSeatingsTest(unittest.TestCase):

    def test_there_are_lists_with_and_without_seatings(self):
        lists = list(some_lists_of_facts())
        without = [facts for guests, facts in lists if not with_all(guests, facts)]
        self.assertGreater(len(without), 200)
        self.assertGreater(len(lists) - len(without), 200)

    def test_weights_and_counts(self):
        for guests, facts in some_lists_of_facts():
            with self.subTest(guests=guests, facts=facts):
                seatings = with_all(guests, facts)
                self.assertIs(can_hold(guests, facts), len(seatings) > 0)
                self.assertEqual(count_with(guests, facts), len(seatings))
                numbers = [len(plain_tables(one)) for one in seatings]
                self.assertEqual(tables_with(guests, facts), [numbers.count(many) for many in range(guests + 1)])
                for weight in (1, 3):
                    self.assertEqual(weight_with(guests, weight, facts), weigh(seatings, weight))
                    self.assertEqual(share_with(guests, weight, facts),
                                     share_of(seatings, all_seatings(guests), weight))

    def test_paper(self):
        for guests, facts in some_lists_of_facts():
            with self.subTest(guests=guests, facts=facts):
                expected = None
                for at in reversed(range(len(facts))):
                    if not with_all(guests, facts[:at + 1]):
                        expected = (facts[at][0], at)
                self.assertEqual(hold_paper(guests, facts), expected)

    def test_indices(self):
        for guests, facts in list(some_lists_of_facts())[::3]:
            with self.subTest(guests=guests, facts=facts):
                seatings = with_all(guests, facts)
                self.assertEqual([nth_with(guests, facts, index) for index in range(len(seatings))], seatings)
                self.assertEqual([index_with(seating, facts) for seating in seatings], list(range(len(seatings))))
                self.assertRaises(InvalidIndex, nth_with, guests, facts, len(seatings))
                for seating in all_seatings(guests):
                    if seating not in seatings:
                        self.assertRaises(NoSeating, index_with, seating, facts)

    def test_next_facts(self):
        for guests, facts in list(some_lists_of_facts())[::5]:
            with self.subTest(guests=guests, facts=facts):
                seatings = with_all(guests, facts)
                for fact in all_facts(guests):
                    if not seatings:
                        self.assertRaises(NoSeating, next_share, guests, 3, facts, fact)
                        continue
                    some = [one for one in seatings if fact in FACTS_OF[tuple(one)]]
                    self.assertEqual(next_share(guests, 3, facts, fact), share_of(some, seatings, 3))

    def test_questions(self):
        for guests, facts in list(some_lists_of_facts())[::2]:
            with self.subTest(guests=guests, facts=facts):
                seatings = with_all(guests, facts)
                if not seatings:
                    self.assertRaises(NoSeating, sure_neighbours, guests, facts)
                    self.assertRaises(NoSeating, best_question, guests, 1, facts)
                    continue
                pairs = [(guest, left) for guest in range(guests) for left in range(guests)]
                sure = [(guest, left) for guest, left in pairs if all(one[guest] == left for one in seatings)]
                self.assertEqual(sure_neighbours(guests, facts), sure)
                for weight in (1, 4):
                    self.assertEqual(best_question(guests, weight, facts), self.plain_best(seatings, weight, pairs))

    def plain_best(self, seatings, weight, pairs):
        total = weigh(seatings, weight)
        shares = {(guest, left): Fraction(weigh([one for one in seatings if one[guest] == left], weight), total)
                  for guest, left in pairs}
        possible = [(abs(share - Fraction(1, 2)), asked) for asked, share in shares.items() if 0 < share < 1]
        return min(possible)[1] if possible else None


class ByHandTest(unittest.TestCase):

    def test_the_examples(self):
        self.assertEqual(sure_neighbours(3, [("left", 0, 1), ("left", 1, 2)]), [(0, 1), (1, 2), (2, 0)])
        self.assertEqual(hold_paper(2, [("open", 1), ("left", 0, 1)]), ("left", 1))
        self.assertEqual(weight_with(4, 2, [("left", 0, 1), ("left", 1, 3)]), 6)
        self.assertEqual(share_with(4, 2, [("left", 0, 1), ("left", 1, 3)]), (1, 20))
        opening = [("left", 0, 1), ("left", 1, 3), ("open", 2)]
        self.assertEqual(weight_with(4, 2, opening), 4)
        self.assertEqual(share_with(4, 2, opening), (1, 30))
        self.assertEqual(next_share(4, 2, opening[:2], ("open", 2)), (2, 3))

    def test_what_contradicts(self):
        for facts, paper in [
            ([("sit", 0)], ("sit", 0)),
            ([("open", 0), ("open", 1), ("sit", 1)], ("sit", 2)),
            ([("sit", 1), ("open", 0), ("open", 1)], ("open", 2)),
            ([("left", 1, 1), ("sit", 1)], ("sit", 1)),
            ([("sit", 1), ("left", 1, 1)], ("left", 1)),
            ([("left", 0, 1), ("left", 0, 2)], ("left", 1)),
            ([("left", 0, 1), ("left", 2, 1)], ("left", 1)),
            ([("left", 3, 1), ("open", 2), ("open", 3)], ("open", 2)),
            ([("left", 0, 0), ("left", 2, 2), ("sit", 1)], ("sit", 2)),
            ([("sit", 1), ("left", 0, 0)], ("left", 1)),
            ([("sit", 2), ("left", 0, 1), ("sit", 3), ("left", 1, 0), ("open", 3)], ("left", 3)),
        ]:
            with self.subTest(facts=facts):
                self.assertEqual(hold_paper(4, facts), paper)
                self.assertIs(can_hold(4, facts), False)
                self.assertEqual(weight_with(4, 5, facts), 0)
                self.assertEqual(share_with(4, 5, facts), (0, 1))
                self.assertEqual(count_with(4, facts), 0)
                self.assertEqual(tables_with(4, facts), [0] * 5)
                self.assertRaises(NoSeating, next_share, 4, 1, facts, ("open", 0))
                self.assertRaises(NoSeating, sure_neighbours, 4, facts)
                self.assertRaises(NoSeating, best_question, 4, 1, facts)
                for index in [0, 1] + WRONG_INDICES:
                    self.assertRaises(InvalidIndex, nth_with, 4, facts, index)
                for seating in all_seatings(4):
                    self.assertRaises(NoSeating, index_with, seating, facts)

    def test_a_told_fact_is_sure_and_its_contrary_cannot_be(self):
        facts = [("left", 0, 1), ("sit", 2), ("open", 3)]
        for fact in facts + [("sit", 1), ("open", 0)]:
            self.assertEqual(next_share(4, 7, facts, fact), (1, 1))
        for fact in [("left", 0, 2), ("open", 2), ("sit", 3), ("open", 1), ("left", 3, 1)]:
            self.assertEqual(next_share(4, 7, facts, fact), (0, 1))

    def test_best_questions(self):
        self.assertEqual(best_question(2, 1, []), (0, 0))
        # (0, 0) and (1, 1) have the share 3/4, (0, 1) and (1, 0) the share 1/4.
        self.assertEqual(best_question(2, 3, []), (0, 0))
        # Of three guests everybody is left of everybody in the share 1/3.
        self.assertEqual(best_question(3, 1, []), (0, 0))
        self.assertEqual(best_question(3, 1, [("left", 0, 0)]), (1, 1))
        # Guest 2 sits left of one of the others, so 0 and 1 are left of themselves or not: 1/2 each.
        self.assertEqual(best_question(3, 1, [("open", 1), ("sit", 2)]), (0, 0))
        self.assertIsNone(best_question(3, 1, [("left", 1, 2), ("left", 2, 1)]))

    def test_the_last_open_question(self):
        facts = [("left", guest, guest + 1) for guest in range(18)]
        self.assertEqual(best_question(20, 1, facts), (18, 0))
        self.assertEqual(best_question(20, MOST, facts), (18, 0))
        self.assertIsNone(best_question(20, 1, facts + [("open", 19)]))
        self.assertIsNone(best_question(20, 1, facts + [("left", 18, 19)]))
        # It is open only whether 18 and 19 sit together.
        pairs = [("left", guest, guest) for guest in range(18)]
        self.assertEqual(best_question(20, 5, pairs), (18, 18))


class EdgesTest(unittest.TestCase):

    def test_one_guest(self):
        for facts in ([], [("left", 0, 0)], [("open", 0)], [("open", 0), ("left", 0, 0)]):
            self.assertIsNone(hold_paper(1, facts))
            self.assertEqual(weight_with(1, MOST, facts), MOST)
            self.assertEqual(share_with(1, MOST, facts), (1, 1))
            self.assertEqual(tables_with(1, facts), [0, 1])
            self.assertEqual(nth_with(1, facts, 0), [0])
            self.assertEqual(index_with([0], facts), 0)
            self.assertEqual(sure_neighbours(1, facts), [(0, 0)])
            self.assertIsNone(best_question(1, 1, facts))
        self.assertEqual(hold_paper(1, [("left", 0, 0), ("sit", 0)]), ("sit", 1))

    def test_no_facts(self):
        self.assertIsNone(hold_paper(20, []))
        self.assertIs(can_hold(20, []), True)
        self.assertEqual(weight_with(20, MOST, []), rising_product(20, MOST))
        self.assertEqual(share_with(20, MOST, []), (1, 1))
        self.assertEqual(count_with(20, []), factorial(20))
        self.assertEqual(sum(tables_with(20, [])), factorial(20))
        self.assertEqual(nth_with(20, [], 0), ALONE)
        self.assertEqual(nth_with(20, [], factorial(20) - 1), ALONE[::-1])
        self.assertEqual(index_with(ALONE[::-1], []), factorial(20) - 1)
        self.assertEqual(sure_neighbours(20, []), [])
        self.assertEqual(next_share(20, MOST, [], ("left", 3, 3)), (MOST, MOST + 19))
        self.assertEqual(next_share(20, MOST, [], ("open", 19)), (MOST, MOST + 19))
        self.assertEqual(best_question(20, 19, []), (0, 0))

    def test_forty_facts(self):
        seating = [one ^ 1 for one in ALONE]
        facts = sorted(facts_of(seating))
        self.assertEqual(len(facts), 40)
        self.assertIsNone(hold_paper(20, facts))
        self.assertEqual(weight_with(20, MOST, facts), MOST ** 10)
        self.assertEqual(share_with(20, MOST, facts), pair(Fraction(MOST ** 10, rising_product(20, MOST))))
        self.assertEqual(count_with(20, facts), 1)
        self.assertEqual(tables_with(20, facts), [0] * 10 + [1] + [0] * 10)
        self.assertEqual(nth_with(20, facts, 0), seating)
        self.assertEqual(index_with(seating, facts), 0)
        self.assertEqual(next_share(20, 1, facts, facts[39]), (1, 1))
        self.assertEqual(next_share(20, 1, facts, ("left", 0, 0)), (0, 1))
        self.assertEqual(sure_neighbours(20, facts), list(enumerate(seating)))
        self.assertIsNone(best_question(20, 1, facts))
        self.assertEqual(hold_paper(20, facts[:39] + [("open", 19)]), ("open", 39))

    def test_forty_one_facts(self):
        facts = all_facts(20)[:41]
        self.assertEqual(hold_paper(20, facts[:40]), ("left", 1))
        self.assertRaises(InvalidFacts, hold_paper, 20, facts)
        self.assertRaises(InvalidFacts, can_hold, 20, sorted(facts_of(ALONE)) + [("sit", 0)])

    def test_indices_of_twenty_guests(self):
        facts = [("left", 0, 7), ("left", 7, 3), ("left", 12, 12), ("open", 5), ("sit", 9), ("sit", 13), ("open", 19)]
        many = count_with(20, facts)
        self.assertGreater(many, 10 ** 10)
        self.assertRaises(InvalidIndex, nth_with, 20, facts, many)
        self.assertRaises(InvalidIndex, nth_with, 20, facts, 10 ** 30 - 1)
        last = []
        for index in sorted({0, 1, many // 3, many // 2, many - 2, many - 1}):
            seating = nth_with(20, facts, index)
            self.assertLessEqual(set(facts), facts_of(seating))
            self.assertLess(last, seating)
            self.assertEqual(index_with(seating, facts), index)
            last = seating


class WrongArgumentsTest(unittest.TestCase):

    def test_facts(self):
        for thing in NO_LISTS_OF_FACTS:
            with self.subTest(thing=thing):
                for function in (hold_paper, can_hold, count_with, tables_with, sure_neighbours):
                    self.assertRaises(InvalidFacts, function, 4, thing)
                for function in (weight_with, share_with, best_question):
                    self.assertRaises(InvalidFacts, function, 4, 1, thing)
                self.assertRaises(InvalidFacts, nth_with, 4, thing, -1)
                self.assertRaises(InvalidFacts, index_with, [0, 1, 2, 3], thing)
                self.assertRaises(InvalidFacts, next_share, 4, 1, thing, ("open", 0))

    def test_one_more_fact(self):
        for thing in NO_FACTS:
            with self.subTest(thing=thing):
                self.assertRaises(InvalidFacts, next_share, 4, 1, [], thing)
                # What is told has no seating, but the wrong fact is looked at first.
                self.assertRaises(InvalidFacts, next_share, 4, 1, [("sit", 0)], thing)
        self.assertRaises(InvalidFacts, next_share, 4, 1, [], [("open", 0)])

    def test_guests_beyond_the_seating(self):
        self.assertRaises(InvalidFacts, index_with, [1, 0], [("open", 2)])
        self.assertRaises(InvalidFacts, index_with, [1, 0], [("left", 0, 2)])

    def test_indices(self):
        for index in [6] + WRONG_INDICES:
            with self.subTest(index=index):
                self.assertRaises(InvalidIndex, nth_with, 4, [("left", 0, 0)], index)

    def test_seatings(self):
        for thing in NO_LISTS_OF_GUESTS:
            with self.subTest(thing=thing):
                self.assertRaises(InvalidSeating, index_with, thing, [])
                self.assertRaises(InvalidSeating, index_with, thing, None)

    def test_guests_and_weights(self):
        for guests in WRONG_GUESTS:
            with self.subTest(guests=guests):
                for function in (hold_paper, can_hold, count_with, tables_with, sure_neighbours):
                    self.assertRaises(InvalidGuests, function, guests, None)
                for function in (weight_with, share_with, best_question):
                    self.assertRaises(InvalidGuests, function, guests, 0, None)
                self.assertRaises(InvalidGuests, nth_with, guests, None, -1)
                self.assertRaises(InvalidGuests, next_share, guests, 0, None, None)
        for weight in WRONG_WEIGHTS:
            with self.subTest(weight=weight):
                for function in (weight_with, share_with, best_question):
                    self.assertRaises(InvalidWeight, function, 4, weight, None)
                self.assertRaises(InvalidWeight, next_share, 4, weight, None, None)


if __name__ == "__main__":
    unittest.main()
