"""[13]: who sits together and who apart, with told left neighbours."""

import random
import unittest
from fractions import Fraction
from itertools import combinations
from math import factorial

from newtables.company import can_meet, company_paper, company_share, company_weight, groups_of, meet_share
from newtables.errors import HallError, InvalidFacts, InvalidGuest, InvalidGuests, InvalidWeight, NoSeating
from newtables.events import together_share
from newtables.rows import weight_with
from tests.helpers import (
    MOST, NO_INTEGERS, WRONG_GUESTS, WRONG_WEIGHTS, all_seatings, pair, rising_product, share_of, table_with,
    weigh,
)

SIX_PAIRS = [(2 * at, 2 * at + 1) for at in range(6)]
RING = [("left", guest, (guest + 1) % 20) for guest in range(20)]

# No rows of four guests: the first ones would be facts.
NO_ROWS = [
    [("open", 0)], [("sit", 0)], [("left", 0, 1), ("open", 0)], [("left", 0, 1), ("sit", 1)], None, True, 0, "", (),
    {}, (("left", 0, 1),), [["left", 0, 1]], [("left", 0)], [("left", 0, 4)], [("left", -1, 0)], [("left", True, 0)],
    [("left", 0, False)], [("left", 0, 1), ("left", 0, 1)], [None], [()], ["left"], [("Left", 0, 1)],
    [("left", 0, "1")], [("left", 0, 1, 2)], [({}, 0, 1)], HallError("left"), {"left": 0},
    [("left", guest, 0) for guest in range(4)] * 11,
]

# No pairs of four guests.
NO_PAIRS = [
    None, True, False, 0, 10 ** 30, "", "0 1", (), {}, {"0": 1}, HallError("0"), ((0, 1),), (0, 1), [0, 1], [[0, 1]],
    [(0,)], [(0, 1, 2)], [()], [(0, 0)], [(3, 3)], [(0, 4)], [(4, 0)], [(-1, 0)], [(0, -1)], [(True, 0)], [(0, True)],
    [(False, 1)], [("0", 1)], [(0, None)], [(0, [1])], [({}, 1)], [((0,), 1)], [(0, 10 ** 30)], [(0, 1), (0, 1)],
    [(0, 1), (1, 0)], [(1, 0), (2, 3), (0, 1)], [(0, 1), None], [(0, 1)] * 2000, [(0, 1), (0, 2), [0, 3]],
]


def is_met(seating, rows, together, apart):
    return (all(seating[guest] == left for _, guest, left in rows)
            and all(mate in table_with(seating, guest) for guest, mate in together)
            and all(mate not in table_with(seating, guest) for guest, mate in apart))


def those_met(guests, rows, together, apart):
    return [one for one in all_seatings(guests) if is_met(one, rows, together, apart)]


def plain_paper(guests, rows, together, apart):
    """Each kind by its own meaning: what no seating has with all that is ahead of its kind."""
    for at in range(len(rows)):
        if not those_met(guests, rows[:at + 1], [], []):
            return ("left", at)
    for at, asked in enumerate(together):
        if not those_met(guests, rows, [asked], []):
            return ("together", at)
    for at, asked in enumerate(apart):
        if not those_met(guests, rows, together, [asked]):
            return ("apart", at)
    return None


def some_companies():
    """Lists of rows and pairs: each way for up to two guests, chosen ones for up to five."""
    for together, apart in (([], []), ([(0, 1)], []), ([(1, 0)], [(0, 1)]), ([], [(1, 0)])):
        for many in range(3):
            for rows in combinations([("left", 0, 0), ("left", 0, 1), ("left", 1, 0), ("left", 1, 1)], many):
                yield 2, list(rows), together, apart
    yield 1, [], [], []
    yield 1, [("left", 0, 0)], [], []
    chosen = random.Random(13)
    for number in range(420):
        guests = chosen.choice((3, 4, 5))
        seating = chosen.choice(all_seatings(guests))
        told = chosen.sample(range(guests), chosen.randint(0, guests - 1))
        rows = [("left", guest, seating[guest]) for guest in told]
        if number % 9 == 0:
            rows.append(("left", chosen.randrange(guests), chosen.randrange(guests)))
            rows = list(dict.fromkeys(rows))
        asked = [one if chosen.random() < 0.5 else one[::-1] for one in combinations(range(guests), 2)]
        chosen.shuffle(asked)
        cut = chosen.randint(0, 3)
        yield guests, rows, asked[:cut], asked[cut:cut + chosen.randint(0, 6 - cut)]
        if number % 4 == 0:
            # One pair in both lists.
            yield guests, [], asked[:2], asked[1:3]


COMPANIES = list(some_companies())


class AllSeatingsTest(unittest.TestCase):

    def test_there_are_all_kinds(self):
        papers = [plain_paper(*one) for one in COMPANIES]
        for kind, least in (("left", 1), ("together", 0), ("apart", 0)):
            for at in (least, least + 1):
                self.assertIn((kind, at), papers)
        self.assertGreater(papers.count(None), 100)

    def test_weights_and_papers(self):
        for guests, rows, together, apart in COMPANIES:
            with self.subTest(guests=guests, rows=rows, together=together, apart=apart):
                seatings = those_met(guests, rows, together, apart)
                self.assertIs(can_meet(guests, rows, together, apart), len(seatings) > 0)
                paper = plain_paper(guests, rows, together, apart)
                self.assertEqual(company_paper(guests, rows, together, apart), paper)
                self.assertIs(paper is None, len(seatings) > 0)
                for weight in (1, 3):
                    self.assertEqual(company_weight(guests, weight, rows, together, apart), weigh(seatings, weight))
                    self.assertEqual(company_share(guests, weight, rows, together, apart),
                                     share_of(seatings, all_seatings(guests), weight))

    def test_meeting(self):
        for guests, rows, together, apart in COMPANIES[::3]:
            seatings = those_met(guests, rows, together, apart)
            for guest, mate in [(0, guests - 1), (guests // 2, 0), (1, 2)]:
                if guest == mate or max(guest, mate) >= guests:
                    continue
                with self.subTest(guests=guests, rows=rows, together=together, apart=apart, guest=guest, mate=mate):
                    arguments = (guests, 2, rows, together, apart, guest, mate)
                    if not seatings:
                        self.assertRaises(NoSeating, meet_share, *arguments)
                        continue
                    some = [one for one in seatings if mate in table_with(one, guest)]
                    self.assertEqual(meet_share(*arguments), share_of(some, seatings, 2))

    def test_groups(self):
        for guests, rows, together, apart in COMPANIES:
            with self.subTest(guests=guests, rows=rows, together=together):
                seatings = those_met(guests, rows, together, [])
                if not seatings:
                    self.assertRaises(NoSeating, groups_of, guests, rows, together)
                    continue
                # Those who are together in all seatings.
                groups = [[mate for mate in range(guests) if all(mate in table_with(one, guest) for one in seatings)]
                          for guest in range(guests)]
                expected = [group for guest, group in enumerate(groups) if group[0] == guest]
                self.assertEqual(groups_of(guests, rows, together), expected)


class ByHandTest(unittest.TestCase):

    def test_the_examples(self):
        self.assertEqual(company_weight(4, 2, [], [(0, 1), (2, 3)], []), 16)
        self.assertEqual(company_weight(4, 2, [], [(0, 1)], [(0, 2)]), 20)

    def test_one_guest(self):
        self.assertEqual(company_weight(1, 7, [], [], []), 7)
        self.assertEqual(company_share(1, MOST, [("left", 0, 0)], [], []), (1, 1))
        self.assertEqual(groups_of(1, [], []), [[0]])
        self.assertIsNone(company_paper(1, [], [], []))
        self.assertRaises(InvalidFacts, company_paper, 1, [], [(0, 0)], [])
        self.assertRaises(InvalidGuest, meet_share, 1, 1, [], [], [], 0, 0)
        self.assertRaises(InvalidGuest, meet_share, 1, 1, [], [], [], 0, 1)

    def test_no_rows_and_no_pairs(self):
        for weight in (1, 2, MOST):
            self.assertEqual(company_weight(20, weight, [], [], []), rising_product(20, weight))
            self.assertEqual(meet_share(20, weight, [], [], [], 3, 17), (1, weight + 1))
        self.assertEqual(groups_of(20, [], []), [[guest] for guest in range(20)])

    def test_six_pairs_together(self):
        for weight in (1, 3, MOST):
            self.assertEqual(company_share(20, weight, [], [(0, 1)], []), (1, weight + 1))
            # Seven guests in a chain are one group, turned pairs or not.
            chain = [(guest, guest + 1) if guest < 3 else (guest + 1, guest) for guest in range(6)]
            self.assertEqual(company_share(20, weight, [], chain, []), together_share(20, weight, list(range(7))))
        self.assertEqual(groups_of(8, [], [(6, 7), (5, 6), (0, 2)]), [[0, 2], [1], [3], [4], [5, 6, 7]])
        # Twelve guests in pairs, each seating of the pairs with two rows for each: by sizes of sets.
        sets = self.sets_of_pairs(6)
        total = sum(Fraction(3) ** len(parts) * self.product_of(factorial(2 * part - 1) for part in parts)
                    for parts in sets)
        self.assertEqual(company_share(20, 3, [], SIX_PAIRS, []), pair(total / rising_product(12, 3)))

    def sets_of_pairs(self, many):
        """The sizes of the parts for each way to part so many things."""
        if many == 0:
            return [[]]
        ways = []
        for parts in self.sets_of_pairs(many - 1):
            ways.append(parts + [1])
            ways += [parts[:at] + [parts[at] + 1] + parts[at + 1:] for at in range(len(parts))]
        return ways

    def product_of(self, factors):
        total = 1
        for factor in factors:
            total *= factor
        return total

    def test_six_pairs_apart(self):
        # Apart is all but together, pair by pair, for guests who come after one another.
        for many in range(1, 7):
            shares = Fraction(0)
            for chosen in range(many + 1):
                for broken in combinations(SIX_PAIRS[:many], chosen):
                    shares += (-1) ** chosen * Fraction(*company_share(20, 2, [], list(broken), []))
            self.assertEqual(company_share(20, 2, [], [], SIX_PAIRS[:many]), pair(shares))
        # All pairs of four guests apart: each at a table of its own.
        pairs = list(combinations(range(4), 2))
        self.assertEqual(company_weight(4, 5, [], [], pairs), 5 ** 4)
        self.assertEqual(company_share(20, 5, [], [], pairs), pair(Fraction(5 ** 4, 5 * 6 * 7 * 8)))
        self.assertRaises(NoSeating, meet_share, 4, 1, [], pairs[:3], pairs[3:4], 0, 1)
        self.assertEqual(meet_share(20, 1, [], pairs[:3], [(4, 5), (6, 7), (8, 9)], 1, 3), (1, 1))

    def test_number_of_pairs(self):
        seven = SIX_PAIRS + [(12, 13)]
        for together, apart in ((SIX_PAIRS, []), ([], SIX_PAIRS), (SIX_PAIRS[:2], SIX_PAIRS[2:]),
                                (SIX_PAIRS[:5], [(18, 19)])):
            self.assertIsNone(company_paper(20, [], together, apart))
            self.assertIs(can_meet(20, [], together, apart), True)
        for together, apart in ((seven, []), ([], seven), (SIX_PAIRS, [(12, 13)]), (SIX_PAIRS[:5], seven[5:]),
                                (SIX_PAIRS[:1], SIX_PAIRS)):
            for function, ahead, behind in ((company_paper, [20], []), (can_meet, [20], []),
                                            (company_weight, [20, 1], []), (company_share, [20, 1], []),
                                            (meet_share, [20, 1], [18, 19])):
                self.assertRaises(InvalidFacts, function, *ahead, [], together, apart, *behind)
        self.assertRaises(InvalidFacts, groups_of, 20, [], seven)
        self.assertEqual(len(groups_of(20, [], SIX_PAIRS)), 14)

    def test_forty_rows(self):
        forty = RING + [("left", 1, left) for left in range(20) if left != 2] + [("left", 2, 0)]
        self.assertEqual(company_paper(20, RING, [], []), None)
        self.assertEqual(company_weight(20, MOST, RING, SIX_PAIRS, []), MOST)
        self.assertEqual(company_paper(20, forty, [(0, 1)], [(0, 1)]), ("left", 20))
        self.assertRaises(InvalidFacts, company_paper, 20, forty + [("left", 2, 1)], [], [])
        many = [("left", 1, left) for left in range(20)] + [("left", 2, left) for left in range(20)]
        self.assertEqual(company_weight(20, 3, many, SIX_PAIRS, []), 0)
        self.assertEqual(company_share(20, 3, many, [], SIX_PAIRS), (0, 1))
        self.assertEqual(company_paper(20, many, [], []), ("left", 1))
        self.assertRaises(InvalidFacts, company_paper, 20, many + [("left", 3, 0)], [], [])

    def test_rows_alone_weigh_what_the_facts_weigh(self):
        rows = [("left", 0, 4), ("left", 4, 0), ("left", 1, 2), ("left", 2, 9), ("left", 12, 1), ("left", 5, 5)]
        for weight in (1, 7, MOST):
            self.assertEqual(company_weight(20, weight, rows, [], []), weight_with(20, weight, rows))
            self.assertEqual(company_weight(20, weight, rows, [(0, 4)], [(0, 1), (5, 9)]),
                             weight_with(20, weight, rows))
        self.assertEqual(groups_of(13, rows, [(4, 0), (3, 9)]),
                         [[0, 4], [1, 2, 3, 9, 12], [5], [6], [7], [8], [10], [11]])

    def test_rings(self):
        rows = [("left", 0, 1), ("left", 1, 0), ("left", 2, 2)]
        self.assertEqual(company_paper(5, rows, [(0, 1), (0, 3)], [(0, 1)]), ("together", 1))
        self.assertEqual(company_paper(5, rows, [(3, 4), (1, 2)], []), ("together", 1))
        self.assertEqual(company_paper(5, rows, [(2, 4)], []), ("together", 0))
        self.assertEqual(company_paper(5, rows, [(3, 4)], [(0, 2), (4, 3)]), ("apart", 1))
        self.assertEqual(company_paper(5, rows, [], [(0, 1)]), ("apart", 0))
        broken = rows[::-1] + [("left", 3, 3), ("left", 4, 3)]
        self.assertEqual(company_paper(5, broken, [(0, 2)], [(0, 1)]), ("left", 4))
        self.assertIsNone(company_paper(5, rows, [(0, 1)], [(0, 2), (1, 3)]))
        self.assertRaises(NoSeating, groups_of, 5, rows, [(0, 3)])
        self.assertRaises(NoSeating, groups_of, 5, [("left", 0, 1), ("left", 2, 1)], [])
        self.assertEqual(groups_of(5, rows, [(3, 4)]), [[0, 1], [2], [3, 4]])
        self.assertEqual(meet_share(5, 2, rows, [], [], 3, 4), (1, 3))
        self.assertEqual(meet_share(5, 2, rows, [], [], 0, 4), (0, 1))
        self.assertEqual(meet_share(5, 2, rows, [], [], 1, 0), (1, 1))
        self.assertEqual(meet_share(5, 2, rows, [], [], 1, 2), (0, 1))

    def test_groups_by_chains_of_pairs_and_rows(self):
        # The pairs of apart are in one group only by rows and pairs of others.
        rows = [("left", 3, 1), ("left", 1, 5)]
        self.assertEqual(company_paper(6, rows, [(5, 0), (2, 3)], [(0, 4), (2, 0)]), ("apart", 1))
        self.assertEqual(groups_of(6, rows, [(5, 0), (2, 3)]), [[0, 1, 2, 3, 5], [4]])
        self.assertRaises(NoSeating, meet_share, 6, 1, rows, [(5, 0), (2, 3)], [(2, 0)], 4, 5)


class WrongArgumentsTest(unittest.TestCase):

    def functions(self):
        """The functions with what stands ahead of rows and behind apart."""
        return [(company_paper, [4], []), (can_meet, [4], []), (company_weight, [4, 1], []),
                (company_share, [4, 1], []), (meet_share, [4, 1], [0, 1])]

    def test_wrong_rows(self):
        for rows in NO_ROWS:
            for function, ahead, behind in self.functions():
                with self.subTest(function=function.__name__, rows=rows):
                    self.assertRaises(InvalidFacts, function, *ahead, rows, [], [], *behind)
            self.assertRaises(InvalidFacts, groups_of, 4, rows, [])

    def test_wrong_pairs(self):
        for pairs in NO_PAIRS:
            for function, ahead, behind in self.functions():
                with self.subTest(function=function.__name__, pairs=pairs):
                    self.assertRaises(InvalidFacts, function, *ahead, [], pairs, [], *behind)
                    self.assertRaises(InvalidFacts, function, *ahead, [], [], pairs, *behind)
            self.assertRaises(InvalidFacts, groups_of, 4, [], pairs)

    def test_wrong_guests_and_weights(self):
        for guests in WRONG_GUESTS:
            self.assertRaises(InvalidGuests, company_paper, guests, [], [], [])
            self.assertRaises(InvalidGuests, can_meet, guests, [], [], [])
            self.assertRaises(InvalidGuests, company_weight, guests, 1, [], [], [])
            self.assertRaises(InvalidGuests, company_share, guests, 1, [], [], [])
            self.assertRaises(InvalidGuests, meet_share, guests, 1, [], [], [], 0, 1)
            self.assertRaises(InvalidGuests, groups_of, guests, [], [])
        for weight in WRONG_WEIGHTS:
            self.assertRaises(InvalidWeight, company_weight, 4, weight, [], [], [])
            self.assertRaises(InvalidWeight, company_share, 4, weight, [], [], [])
            self.assertRaises(InvalidWeight, meet_share, 4, weight, [], [], [], 0, 1)

    def test_wrong_guests_who_meet(self):
        for guest in [4, -1, 10 ** 30] + NO_INTEGERS:
            self.assertRaises(InvalidGuest, meet_share, 4, 1, [], [], [], guest, 1)
            self.assertRaises(InvalidGuest, meet_share, 4, 1, [], [], [], 0, guest)
        for guest in range(4):
            self.assertRaises(InvalidGuest, meet_share, 4, 1, [], [], [], guest, guest)
        # Ahead of NoSeating.
        self.assertRaises(InvalidGuest, meet_share, 4, 1, [], [(0, 1)], [(0, 1)], 2, 2)
        self.assertRaises(NoSeating, meet_share, 4, 1, [], [(0, 1)], [(0, 1)], 2, 3)


if __name__ == "__main__":
    unittest.main()
