import unittest

from fourway import errors

MADE_OF_AT = (errors.NoNet, errors.NoText, errors.NoWord)
MADE_OF_TEXT = (errors.NoCross, errors.NoPivot, errors.NoSet, errors.NoDeed, errors.NoLine, errors.TooMany)
ALL = MADE_OF_AT + (errors.NoOne, errors.NoLetter) + MADE_OF_TEXT


class Values(unittest.TestCase):
    def test_those_made_of_a_number_have_it_as_at(self):
        for kind in MADE_OF_AT:
            for at in (-1, 0, 7, 31):
                self.assertEqual(kind(at).at, at)

    def test_no_one_has_how_many(self):
        for many in (0, 2, 9):
            self.assertEqual(errors.NoOne(many).many, many)

    def test_no_letter_has_the_text(self):
        for letter in ("", "x", "a longer one"):
            self.assertEqual(errors.NoLetter(letter).letter, letter)

    def test_the_others_are_made_of_a_text(self):
        for kind in MADE_OF_TEXT:
            self.assertIsInstance(kind("some words"), kind)

    def test_each_object_has_its_own_value(self):
        one, other = errors.NoText(1), errors.NoText(2)
        self.assertEqual((one.at, other.at), (1, 2))


class Classes(unittest.TestCase):
    def test_all_are_there_and_no_others(self):
        told = [thing for thing in vars(errors).values() if isinstance(thing, type)]
        self.assertEqual(set(told), set(ALL) | {errors.RoundError})
        self.assertEqual(len(ALL), 11)

    def test_the_base_is_a_value_error(self):
        self.assertEqual(errors.RoundError.__bases__, (ValueError,))

    def test_each_stands_straight_beneath_the_base(self):
        for kind in ALL:
            self.assertEqual(kind.__bases__, (errors.RoundError,))

    def test_none_stands_beneath_another(self):
        for one in ALL:
            for other in ALL:
                self.assertEqual(issubclass(one, other), one is other)

    def test_raised_they_are_caught_as_base_and_as_value_error(self):
        for kind in ALL:
            value = 3 if kind in MADE_OF_AT + (errors.NoOne,) else "c"
            for caught in (kind, errors.RoundError, ValueError):
                with self.assertRaises(caught):
                    raise kind(value)


if __name__ == "__main__":
    unittest.main()
