import unittest
from collections import Counter
from itertools import product

from fourway.byrests import choice_table, passed_once, rounds_by_rest
from fourway.errors import TooMany
from fourway.ranks import rest_of
from fourway.reading import choice_by, net_by
from fourway.rounds import rounds_of
from fourway.tables import crossings
from tests.rows import all_sets, sum_at
from tests.samples import all_words, drawn_choices, drawn_words
from tests.walks import rounds_by_merging


def cases(most):
    """Ring words of up to so many letters with choices; all choices of the small ones."""
    for word in [word for many in range(1, 4) for word in all_words(many)] + ["zbzmbm", "cacbab"]:
        for choice in product(range(3), repeat=len(word) // 2):
            yield word, list(choice)
    for word in drawn_words(most):
        for choice in drawn_choices(len(word) // 2, 6):
            yield word, choice


class Table(unittest.TestCase):
    def test_small_ones(self):
        self.assertEqual(choice_table("abab", [0, 0]), [])
        self.assertEqual(choice_table("abab", [1, 0]), [[1]])
        self.assertEqual(choice_table("abab", [0, 2]), [[0]])
        self.assertEqual(choice_table("abab", [1, 2]), [[1, 1], [1, 0]])
        self.assertEqual(choice_table("aabb", [2, 1]), [[0, 0], [0, 1]])

    def test_the_letters_go_by_their_numbers(self):
        self.assertEqual(choice_table("zbzmbm", [1, 2, 0]), [[1, 1], [1, 0]])
        self.assertEqual(choice_table("zbzmbm", [0, 2, 1]), [[0, 0], [0, 1]])

    def test_words_of_up_to_ten_letters(self):
        for word, choice in cases(10):
            web = crossings(word)
            numbers = [number for number, way in enumerate(choice) if way != 0]
            table = choice_table(word, choice)
            self.assertEqual(len(table), len(numbers))
            for at, i in enumerate(numbers):
                wanted = [int(choice[i] == 1) if i == j else web[i][j] for j in numbers]
                self.assertEqual(table[at], wanted)

    def test_told_lists_are_the_askers_own(self):
        choice = [1, 2]
        told = choice_table("abab", choice)
        told[0].clear()
        self.assertEqual((choice, choice_table("abab", choice)), ([1, 2], [[1, 1], [1, 0]]))


class Rounds(unittest.TestCase):
    def test_small_ones(self):
        self.assertEqual([rounds_by_rest("aa", [way]) for way in range(3)], [1, 1, 2])
        self.assertEqual(rounds_by_rest("abab", [2, 2]), 1)
        self.assertEqual(rounds_by_rest("aabb", [2, 2]), 3)

    def test_they_are_those_walked_in_the_net(self):
        for word, choice in cases(8):
            self.assertEqual(rounds_by_rest(word, choice), rounds_by_merging(net_by(word), choice_by(word, choice)))

    def test_words_of_up_to_ten_letters(self):
        told = set()
        for word, choice in cases(10):
            self.assertEqual(rounds_by_rest(word, choice), rest_of(choice_table(word, choice)) + 1)
            told.add(len(word))
        self.assertLessEqual({18, 20}, told)

    def test_ten_letters_none_of_which_cross(self):
        word = "aabbccddeeffgghhiijj"
        self.assertEqual(rounds_by_rest(word, [2] * 10), 11)
        self.assertEqual(rounds_by_rest(word, [1] * 10), 1)
        self.assertEqual(rounds_by_rest(word, [0] * 10), 1)
        self.assertEqual(rounds_by_rest(word, [0, 1, 2, 2, 0, 0, 2, 1, 1, 2]), 5)


class Passed(unittest.TestCase):
    def test_small_ones(self):
        self.assertEqual(passed_once("aa", [0]), [[]])
        self.assertEqual(passed_once("aa", [1]), [[]])
        self.assertEqual(passed_once("aa", [2]), [[0], [0]])
        self.assertEqual(passed_once("abab", [1, 1]), [[0, 1], [0, 1]])
        self.assertEqual(passed_once("abab", [0, 2]), [[0], [0]])
        self.assertEqual(passed_once("aabb", [2, 2]), [[0, 1], [0], [1]])

    def test_by_the_ends_that_stand_in_each_round(self):
        for word, choice in cases(8):
            order = list(dict.fromkeys(word))
            letters = [letter for letter, way in zip(sorted(set(word)), choice) if way != 0]
            wanted = []
            for ends in rounds_of(net_by(word), choice_by(word, choice)):
                met = Counter(order[end // 4] for end in ends)
                wanted.append([at for at, letter in enumerate(letters) if met[letter] == 2])
            self.assertEqual(passed_once(word, choice), wanted)

    def test_these_rows_add_up_to_noughts(self):
        for word, choice in cases(8):
            table = choice_table(word, choice)
            for numbers in passed_once(word, choice):
                self.assertEqual(numbers, sorted(set(numbers)))
                self.assertEqual(sum_at(table, numbers), [0] * len(table))

    def test_each_place_in_none_or_two_lists(self):
        for word, choice in cases(8):
            told = Counter(number for numbers in passed_once(word, choice) for number in numbers)
            self.assertLessEqual(set(told.values()), {2})
            self.assertLessEqual(set(told), set(range(len(choice_table(word, choice)))))

    def test_of_all_lists_but_one_no_sum_comes_to_nothing(self):
        for word, choice in cases(8):
            told = passed_once(word, choice)
            for left_out in range(len(told)):
                lists = told[:left_out] + told[left_out + 1:]
                for some in all_sets(range(len(lists)))[1:]:
                    counted = Counter(number for at in some for number in lists[at])
                    self.assertTrue(any(many % 2 for many in counted.values()), (word, choice))

    def test_nine_and_ten_letters_are_too_many(self):
        for word in drawn_words():
            if len(word) > 16:
                with self.assertRaises(TooMany):
                    passed_once(word, [0] * (len(word) // 2))

    def test_told_lists_are_the_askers_own(self):
        choice = [2, 2]
        told = passed_once("aabb", choice)
        told[0].clear()
        told.clear()
        self.assertEqual((choice, passed_once("aabb", choice)), ([2, 2], [[0, 1], [0], [1]]))


if __name__ == "__main__":
    unittest.main()
