"""The example of [4]: weight 2 and four guests, by adding up the shares of all seatings."""

import unittest
from fractions import Fraction

from newtables.comings import openers_of, seating_by
from newtables.company import company_weight, meet_share
from newtables.events import count_openers, opener_share, openers_share, together_share
from newtables.rows import hold_paper, share_with, sure_neighbours
from newtables.seatings import are_together, table_from, tables_of
from newtables.sizes import size_share
from newtables.weights import seating_share, total_weight
from tests.helpers import all_seatings


def share_of(has_it):
    return sum(Fraction(*seating_share(seating, 2)) for seating in all_seatings(4) if has_it(seating))


class ExampleTest(unittest.TestCase):

    def test_all_weigh_120(self):
        self.assertEqual(total_weight(4, 2), 120)
        self.assertEqual(share_of(lambda seating: True), 1)

    def test_the_coming_list(self):
        seating = seating_by([0, 0, 2, 1])
        self.assertEqual(seating, [1, 3, 2, 0])
        self.assertEqual(tables_of(seating), [(0, 1, 3), (2,)])
        self.assertEqual(seating_share(seating, 2), (1, 30))

    def test_just_0_and_2_open(self):
        self.assertEqual(share_of(lambda seating: openers_of(seating) == [0, 2]), Fraction(1, 10))
        self.assertEqual(count_openers(4, [0, 2]), 3)
        self.assertEqual(openers_share(4, 2, [0, 2]), (1, 10))

    def test_each_guest_opens_in_its_share(self):
        for guest in range(4):
            self.assertEqual(share_of(lambda seating: guest in openers_of(seating)), Fraction(2, 2 + guest))
            self.assertEqual(Fraction(*opener_share(4, 2, guest)), Fraction(2, 2 + guest))

    def test_guests_together(self):
        self.assertEqual(share_of(lambda seating: are_together(seating, 1, 3)), Fraction(1, 3))
        three = share_of(lambda seating: are_together(seating, 0, 2) and are_together(seating, 2, 3))
        self.assertEqual(three, Fraction(1, 6))
        self.assertEqual(together_share(4, 2, [1, 3]), (1, 3))
        self.assertEqual(together_share(4, 2, [0, 2, 3]), (1, 6))

    def test_the_size_of_a_table(self):
        shares = [share_of(lambda seating: len(table_from(seating, 0)) == size) for size in (1, 2, 3, 4)]
        self.assertEqual(shares, [Fraction(part, 120) for part in (48, 36, 24, 12)])
        self.assertEqual([Fraction(*size_share(4, 2, size)) for size in (1, 2, 3, 4)], shares)

    def test_told_neighbours(self):
        self.assertEqual(share_of(lambda seating: seating[:2] == [1, 3]), Fraction(6, 120))
        opening = share_of(lambda seating: seating[:2] == [1, 3] and 2 in openers_of(seating))
        self.assertEqual(opening, Fraction(4, 120))
        told = [("left", 0, 1), ("left", 1, 3)]
        self.assertEqual(Fraction(*share_with(4, 2, told)), Fraction(6, 120))
        self.assertEqual(Fraction(*share_with(4, 2, told + [("open", 2)])), Fraction(4, 120))

    def test_the_examples_of_facts(self):
        self.assertEqual(sure_neighbours(3, [("left", 0, 1), ("left", 1, 2)]), [(0, 1), (1, 2), (2, 0)])
        self.assertEqual(hold_paper(2, [("open", 1), ("left", 0, 1)]), ("left", 1))

    def test_the_examples_of_company(self):
        self.assertEqual(company_weight(4, 2, [], [(0, 1), (2, 3)], []), 16)
        self.assertEqual(company_weight(4, 2, [], [(0, 1)], [(0, 2)]), 20)
        self.assertEqual(meet_share(4, 2, [], [], [], 1, 3), (1, 3))
        self.assertEqual(meet_share(4, 2, [], [(0, 2)], [], 2, 3), (1, 2))


if __name__ == "__main__":
    unittest.main()
