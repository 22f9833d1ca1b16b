"""[5]: the errors."""

import unittest

from newtables import errors

NAMES = [
    "InvalidGuests", "InvalidWeight", "InvalidGuest", "InvalidSeating", "InvalidComing", "InvalidNames",
    "InvalidTables", "InvalidSizes", "InvalidGroup", "InvalidGroups", "InvalidFacts", "InvalidDistances",
    "InvalidNumber", "InvalidIndex", "NoSeating", "NothingToUndo", "Refused", "InvalidText",
]


class ErrorsTest(unittest.TestCase):

    def test_the_base_is_a_value_error(self):
        self.assertEqual(errors.HallError.__bases__, (ValueError,))

    def test_all_are_direct_subclasses(self):
        for name in NAMES:
            with self.subTest(name=name):
                self.assertEqual(getattr(errors, name).__bases__, (errors.HallError,))

    def test_none_is_a_subclass_of_another(self):
        kinds = [getattr(errors, name) for name in NAMES]
        for kind in kinds:
            self.assertEqual([other for other in kinds if issubclass(kind, other)], [kind])

    def test_no_other_error_is_defined(self):
        kinds = {kind.__name__ for kind in errors.HallError.__subclasses__()}
        self.assertEqual(kinds, set(NAMES))

    def test_most_are_made_with_one_string(self):
        for name in NAMES[:-2]:
            with self.subTest(name=name):
                self.assertEqual(str(getattr(errors, name)("a word")), "a word")

    def test_refused_keeps_its_word(self):
        self.assertEqual(errors.Refused("full").word, "full")
        self.assertEqual(errors.Refused(word="gone").word, "gone")

    def test_invalid_text_keeps_its_place(self):
        self.assertEqual(errors.InvalidText(0).place, 0)
        self.assertEqual(errors.InvalidText(place=3).place, 3)

    def test_the_fields_hold_when_raised(self):
        with self.assertRaises(errors.HallError) as caught:
            raise errors.Refused("full")
        self.assertEqual(caught.exception.word, "full")
        with self.assertRaises(ValueError) as caught:
            raise errors.InvalidText(2)
        self.assertEqual(caught.exception.place, 2)
