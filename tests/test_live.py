"""[18]: halls, against a plain one that is made anew from its calls each time."""

import random
import unittest
from fractions import Fraction

from newtables.comings import coming_of, seating_by
from newtables.errors import HallError, InvalidIndex, InvalidWeight, NothingToUndo, Refused
from newtables.leaving import joined, without
from newtables.live import Hall
from newtables.paths import exchanged
from newtables.weights import seating_share
from tests.helpers import MOST, NO_INTEGERS, WRONG_WEIGHTS, all_comings, pair

METHODS = {
    "open_table": [], "sit": ["mate"], "leave": ["guest"], "exchange": ["guest", "mate"], "undo": [], "mark": [],
    "undo_to": ["index"], "twin": [], "chance": [],
}
PROPERTIES = ["weight", "here", "tables", "seating"]


class PlainHall:
    """The calls that hold, and what they lead to: tables as lists, each guest left of the one ahead."""

    def __init__(self, weight):
        self.weight = weight
        self.calls = []

    def replay(self):
        tables = []
        newcomer = 0
        chance = Fraction(1)
        for word, *guests in self.calls:
            there = sum(len(table) for table in tables)
            if word == "open_table":
                tables.append([newcomer])
                chance *= Fraction(self.weight, self.weight + there)
                newcomer += 1
            elif word == "sit":
                table = next(table for table in tables if guests[0] in table)
                table.insert(table.index(guests[0]) + 1, newcomer)
                chance *= Fraction(1, self.weight + there)
                newcomer += 1
            elif word == "leave":
                tables = [[one for one in table if one != guests[0]] for table in tables]
                tables = [table for table in tables if table]
            else:
                tables = self.exchanged(tables, *guests)
        turned = [tuple(table[table.index(min(table)):] + table[:table.index(min(table))]) for table in tables]
        return sorted(turned), chance

    def exchanged(self, tables, guest, mate):
        lefts = {one: table[(at + 1) % len(table)] for table in tables for at, one in enumerate(table)}
        lefts[guest], lefts[mate] = lefts[mate], lefts[guest]
        found = []
        while lefts:
            table = [min(lefts)]
            while table[-1] in lefts:
                table.append(lefts.pop(table[-1]))
            found.append(table[:-1])
        return found


def state_of(hall):
    return (hall.weight, hall.here, hall.tables, hall.seating, hall.chance(), hall.mark(), len(hall))


def plain_state(plain):
    tables, chance = plain.replay()
    here = sorted(guest for table in tables for guest in table)
    lefts = {one: table[(at + 1) % len(table)] for table in tables for at, one in enumerate(table)}
    seating = [here.index(lefts[guest]) for guest in here]
    return (plain.weight, here, tables, seating, pair(chance), len(plain.calls), len(plain.calls))


def told(weight, *calls):
    """A hall that has been told these calls."""
    hall = Hall(weight)
    for word, *arguments in calls:
        getattr(hall, word)(*arguments)
    return hall


def full_hall(weight=1):
    return told(weight, *[("open_table",)] * 20)


class AgainstPlainHallTest(unittest.TestCase):

    def play(self, chosen, hall, plain, many):
        """Tells a hall and a plain one the same calls, valid or not."""
        for _ in range(many):
            here = hall.here
            guest, mate = chosen.randint(-1, 30), chosen.randint(-1, 30)
            if here and chosen.random() < 0.9:
                guest, mate = chosen.choice(here), chosen.choice(here)
            word = chosen.choice(["open_table", "sit", "sit", "sit", "leave", "exchange", "undo", "undo_to"])
            arguments = {"open_table": [], "sit": [mate], "leave": [guest], "exchange": [guest, mate], "undo": [],
                         "undo_to": [chosen.randint(max(0, len(hall) - 4), len(hall) + 1)]}[word]
            before = state_of(hall)
            refused = self.plain_error(plain, here, word, arguments)
            if refused is None:
                self.assertIsNone(getattr(hall, word)(*arguments))
                if word == "undo":
                    plain.calls.pop()
                elif word == "undo_to":
                    del plain.calls[arguments[0]:]
                else:
                    plain.calls.append((word, *arguments))
                self.assertEqual(state_of(hall), plain_state(plain))
            else:
                with self.assertRaises(HallError) as caught:
                    getattr(hall, word)(*arguments)
                kind, *word = refused
                self.assertIs(type(caught.exception), kind)
                if word:
                    self.assertEqual(caught.exception.word, word[0])
                self.assertEqual(state_of(hall), before)

    def plain_error(self, plain, here, word, arguments):
        if word in ("open_table", "sit") and len(here) == 20:
            return (Refused, "full")
        if word in ("sit", "leave", "exchange") and not set(arguments) <= set(here):
            return (Refused, "gone")
        if word == "undo" and not plain.calls:
            return (NothingToUndo,)
        if word == "undo_to" and not 0 <= arguments[0] <= len(plain.calls):
            return (InvalidIndex,)
        return None

    def test_short_halls(self):
        chosen = random.Random(18)
        for _ in range(150):
            weight = chosen.choice((1, 2, 7, MOST))
            self.play(chosen, Hall(weight), PlainHall(weight), 25)

    def test_long_halls(self):
        chosen = random.Random(181)
        for weight in (1, 3, MOST):
            self.play(chosen, Hall(weight), PlainHall(weight), 200)

    def test_twins(self):
        chosen = random.Random(182)
        for _ in range(60):
            weight = chosen.choice((1, 5))
            hall, plain = Hall(weight), PlainHall(weight)
            self.play(chosen, hall, plain, chosen.randint(0, 20))
            twin, other = hall.twin(), PlainHall(weight)
            other.calls = list(plain.calls)
            self.assertIs(type(twin), Hall)
            self.assertEqual(state_of(twin), state_of(hall))
            for one, its_plain in ((hall, plain), (twin, other), (hall, plain), (twin, other)):
                self.play(chosen, one, its_plain, 6)
                self.assertEqual(state_of(hall), plain_state(plain))
                self.assertEqual(state_of(twin), plain_state(other))
            hall.undo_to(0)
            plain.calls.clear()
            self.assertEqual(state_of(hall), plain_state(plain))
            self.assertEqual(state_of(twin), plain_state(other))


class ByHandTest(unittest.TestCase):

    def test_nobody(self):
        for hall in (Hall(), Hall(1), told(1, ("open_table",), ("undo",)), told(1, ("open_table",), ("undo_to", 0))):
            self.assertEqual(state_of(hall), (1, [], [], [], (1, 1), 0, 0))
            self.assertRaises(NothingToUndo, hall.undo)
            for word, *arguments in (("sit", 0), ("leave", 0), ("exchange", 0, 0)):
                with self.assertRaises(Refused) as caught:
                    getattr(hall, word)(*arguments)
                self.assertEqual(caught.exception.word, "gone")
            hall.undo_to(0)
            self.assertEqual(state_of(hall), (1, [], [], [], (1, 1), 0, 0))
        hall = told(1, ("open_table",), ("leave", 0))
        self.assertEqual(state_of(hall), (1, [], [], [], (1, 1), 2, 2))

    def test_numbers_are_never_given_again(self):
        hall = told(2, ("open_table",), ("sit", 0), ("leave", 0), ("sit", 1), ("open_table",))
        self.assertEqual(hall.here, [1, 2, 3])
        self.assertEqual(hall.tables, [(1, 2), (3,)])
        self.assertEqual(hall.seating, [1, 0, 2])
        hall.leave(3)
        hall.open_table()
        self.assertEqual(hall.here, [1, 2, 4])
        self.assertEqual(hall.tables, [(1, 2), (4,)])

    def test_a_newcomer_behind_an_undone_call_has_the_number_again(self):
        hall = told(1, ("open_table",), ("sit", 0), ("undo",), ("open_table",))
        self.assertEqual(hall.tables, [(0,), (1,)])
        hall = told(1, ("open_table",), ("sit", 0), ("sit", 0), ("leave", 1), ("undo_to", 1), ("sit", 0))
        self.assertEqual(hall.tables, [(0, 1)])
        # What is undone is the leaving alone.
        hall = told(1, ("open_table",), ("sit", 0), ("leave", 1), ("undo",), ("sit", 0))
        self.assertEqual(hall.tables, [(0, 2, 1)])

    def test_who_is_gone_comes_back(self):
        hall = told(3, ("open_table",), ("sit", 0), ("sit", 0))
        self.assertEqual(hall.tables, [(0, 2, 1)])
        hall.leave(0)
        self.assertEqual(hall.tables, [(1, 2)])
        for word, *arguments in (("leave", 0), ("sit", 0), ("exchange", 1, 0), ("exchange", 0, 1), ("exchange", 0, 0)):
            self.assertRaises(Refused, getattr(hall, word), *arguments)
        hall.undo()
        self.assertEqual(hall.tables, [(0, 2, 1)])
        hall.sit(0)
        self.assertEqual(hall.tables, [(0, 3, 2, 1)])

    def test_exchanges(self):
        hall = told(1, ("open_table",), ("open_table",), ("sit", 1))
        hall.exchange(0, 2)
        self.assertEqual(hall.tables, [(0, 1, 2)])
        hall.exchange(1, 1)
        self.assertEqual(hall.tables, [(0, 1, 2)])
        self.assertEqual(hall.mark(), 5)
        hall.undo()
        hall.undo()
        self.assertEqual(hall.tables, [(0,), (1, 2)])
        self.assertEqual(len(hall), 3)

    def test_twenty_guests(self):
        hall = full_hall(MOST)
        self.assertEqual(hall.here, list(range(20)))
        for word, *arguments in (("open_table",), ("sit", 0), ("sit", 20), ("sit", -1)):
            with self.assertRaises(Refused) as caught:
                getattr(hall, word)(*arguments)
            self.assertEqual(caught.exception.word, "full")
        self.assertEqual(len(hall), 20)
        hall.leave(7)
        with self.assertRaises(Refused) as caught:
            hall.sit(7)
        self.assertEqual(caught.exception.word, "gone")
        hall.sit(8)
        self.assertEqual(hall.tables[7], (8, 20))
        self.assertEqual(hall.seating[7], 19)
        self.assertRaises(Refused, hall.open_table)
        hall.undo_to(20)
        self.assertEqual(hall.tables, [(guest,) for guest in range(20)])

    def test_chance(self):
        hall = told(2, ("open_table",), ("sit", 0), ("open_table",))
        self.assertEqual(hall.chance(), (1, 6))
        hall.exchange(0, 2)
        self.assertEqual(hall.chance(), (1, 6))
        hall.leave(0)
        self.assertEqual(hall.chance(), (1, 6))
        hall.sit(1)
        self.assertEqual(hall.chance(), (1, 24))
        hall.undo_to(2)
        self.assertEqual(hall.chance(), (1, 3))
        hall.undo_to(0)
        self.assertEqual(hall.chance(), (1, 1))

    def test_marks(self):
        hall = told(1, ("open_table",), ("sit", 0))
        mark = hall.mark()
        self.assertEqual(mark, 2)
        states = [state_of(hall)]
        hall.sit(1)
        hall.leave(0)
        hall.undo_to(mark)
        self.assertEqual(state_of(hall), states[0])
        hall.undo_to(len(hall))
        self.assertEqual(state_of(hall), states[0])
        for index in [3, -1, 10 ** 30, -(10 ** 30)] + NO_INTEGERS:
            self.assertRaises(InvalidIndex, hall.undo_to, index)
        self.assertEqual(state_of(hall), states[0])
        hall.undo_to(0)
        self.assertEqual(hall.mark(), 0)
        self.assertRaises(InvalidIndex, hall.undo_to, 1)

    def test_two_hundred_calls(self):
        hall = full_hall(MOST)
        for number in range(60):
            hall.leave(number)
            hall.sit(number + 1)
            hall.exchange(number + 1, number + 20)
        self.assertEqual(len(hall), 200)
        self.assertEqual(hall.here, list(range(60, 80)))
        states = [state_of(hall.twin())]
        while len(hall):
            hall.undo()
            states.append(state_of(hall))
        self.assertEqual(states[-1][1:], ([], [], [], (1, 1), 0, 0))
        self.assertEqual(states[180], state_of(full_hall(MOST)))

    def test_twin_goes_another_way(self):
        hall = told(4, ("open_table",), ("sit", 0), ("leave", 0))
        twin = hall.twin()
        self.assertIsNot(twin, hall)
        self.assertEqual(twin.weight, 4)
        twin.undo()
        twin.open_table()
        hall.sit(1)
        self.assertEqual(hall.tables, [(1, 2)])
        self.assertEqual(twin.tables, [(0, 1), (2,)])
        twin.undo_to(0)
        self.assertEqual(twin.here, [])
        hall.undo()
        hall.undo()
        self.assertEqual(hall.tables, [(0, 1)])
        self.assertEqual(hall.twin().twin().tables, [(0, 1)])

    def test_coming_lists(self):
        # A hall that only takes newcomers goes by coming lists, and its chance is the share.
        for coming in all_comings(4):
            hall = Hall(3)
            for guest, right in enumerate(coming):
                if right == guest:
                    hall.open_table()
                else:
                    hall.sit(right)
            self.assertEqual(hall.seating, seating_by(coming))
            self.assertEqual(coming_of(hall.seating), coming)
            self.assertEqual(hall.chance(), seating_share(hall.seating, 3))

    def test_the_functions_tell_the_same(self):
        hall = told(1, ("open_table",), ("sit", 0), ("open_table",), ("sit", 1))
        seating = hall.seating
        hall.sit(2)
        self.assertEqual(hall.seating, joined(seating, 2))
        hall.exchange(1, 4)
        self.assertEqual(hall.seating, exchanged(joined(seating, 2), 1, 4))
        before = hall.seating
        hall.leave(2)
        self.assertEqual(hall.seating, without(before, 2))


class RulesTest(unittest.TestCase):

    def test_arguments_by_name(self):
        hall = Hall(weight=2)
        hall.open_table()
        hall.sit(mate=0)
        hall.exchange(mate=1, guest=0)
        self.assertEqual(hall.tables, [(0,), (1,)])
        hall.leave(guest=0)
        hall.undo_to(index=3)
        self.assertEqual(hall.tables, [(0,), (1,)])

    def test_weights(self):
        for weight in WRONG_WEIGHTS:
            self.assertRaises(InvalidWeight, Hall, weight)
        for weight in (1, 2, MOST):
            self.assertEqual(Hall(weight).weight, weight)
        self.assertEqual(Hall().weight, 1)

    def test_booleans_are_no_guests(self):
        hall = told(1, ("open_table",), ("sit", 0))
        before = state_of(hall)
        for word, *arguments in (("sit", True), ("leave", False), ("exchange", True, 0), ("exchange", 0, True),
                                 ("leave", None), ("sit", "0"), ("leave", [0]), ("exchange", 0, {})):
            self.assertRaises(Refused, getattr(hall, word), *arguments)
        self.assertEqual(state_of(hall), before)

    def test_what_methods_return(self):
        hall = Hall()
        self.assertIsNone(hall.open_table())
        self.assertIsNone(hall.sit(0))
        self.assertIsNone(hall.exchange(0, 1))
        self.assertIsNone(hall.leave(0))
        self.assertIs(type(hall.mark()), int)
        self.assertIsNone(hall.undo())
        self.assertIsNone(hall.undo_to(0))

    def test_lists_are_new(self):
        hall = told(1, ("open_table",), ("sit", 0), ("open_table",))
        before = state_of(hall)
        for name in ("here", "tables", "seating"):
            value = getattr(hall, name)
            self.assertIs(type(value), list)
            self.assertIsNot(getattr(hall, name), value)
            value.clear()
            self.assertEqual(state_of(hall), before)
        self.assertTrue(all(type(table) is tuple for table in hall.tables))

    def test_properties_are_not_assigned(self):
        hall = Hall()
        for name in PROPERTIES:
            self.assertIsInstance(vars(Hall)[name], property)
            self.assertRaises(AttributeError, setattr, hall, name, 1)

    def test_methods_are_defined_in_the_class(self):
        for name, arguments in METHODS.items():
            method = vars(Hall)[name]
            self.assertEqual(list(method.__code__.co_varnames[:method.__code__.co_argcount]), ["self"] + arguments)
        self.assertIn("__len__", vars(Hall))

    def test_compared_by_identity(self):
        hall, other = Hall(), Hall()
        self.assertNotEqual(hall, other)
        self.assertNotEqual(hall, hall.twin())
        self.assertEqual(hall, hall)
        self.assertEqual(len({hall, other, hall}), 2)


if __name__ == "__main__":
    unittest.main()
