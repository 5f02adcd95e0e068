import unittest
from itertools import product

from fourway.choices import all_choices, changed_at, joined
from fourway.errors import TooMany

# [8], word for word: the two pairs of seats of each way.
PAIRS = {0: ((0, 1), (2, 3)), 1: ((0, 2), (1, 3)), 2: ((0, 3), (1, 2))}


class Joined(unittest.TestCase):
    def test_all_ways_and_seats(self):
        for way, pairs in PAIRS.items():
            for one, other in pairs:
                self.assertEqual(joined(way, one), other)
                self.assertEqual(joined(way, other), one)


class All(unittest.TestCase):
    def test_one_place(self):
        self.assertEqual(all_choices(1), [[0], [1], [2]])

    def test_two_places(self):
        self.assertEqual(
            all_choices(2), [[0, 0], [0, 1], [0, 2], [1, 0], [1, 1], [1, 2], [2, 0], [2, 1], [2, 2]])

    def test_up_to_six_places_rising(self):
        for n in range(1, 7):
            told = all_choices(n)
            self.assertEqual(told, [list(ways) for ways in product(range(3), repeat=n)])
            self.assertEqual(told, sorted(told))
            self.assertEqual(len(told), 3 ** n)

    def test_more_are_too_many(self):
        for n in (7, 8, 9, 10, 100, 10 ** 9, 10 ** 59, 10 ** 60 - 1):
            with self.assertRaises(TooMany):
                all_choices(n)

    def test_told_anew_each_time(self):
        for n in range(1, 4):
            told = all_choices(n)
            for choice in told:
                choice.append(9)
            told.clear()
            self.assertEqual(all_choices(n), [list(ways) for ways in product(range(3), repeat=n)])

    def test_no_two_choices_are_one_list(self):
        told = all_choices(3)
        told[0][2] = 9
        self.assertEqual(told[1:], [list(ways) for ways in product(range(3), repeat=3)][1:])


class Changed(unittest.TestCase):
    def test_each_place_and_way(self):
        for n in range(1, 5):
            for choice in product(range(3), repeat=n):
                for place in range(n):
                    for way in range(3):
                        told = changed_at(list(choice), place, way)
                        self.assertEqual(told, list(choice[:place]) + [way] + list(choice[place + 1:]))

    def test_the_choice_handed_in_stays(self):
        choice = [0, 1, 2]
        told = changed_at(choice, 1, 2)
        self.assertEqual((choice, told), ([0, 1, 2], [0, 2, 2]))
        told[0] = 9
        self.assertEqual(choice, [0, 1, 2])

    def test_the_way_that_stands_there_tells_a_new_list_too(self):
        choice = [0, 1, 2]
        told = changed_at(choice, 1, 1)
        self.assertEqual(told, choice)
        self.assertIsNot(told, choice)


if __name__ == "__main__":
    unittest.main()
