import unittest
from random import Random

from fourway.tables import crossings, is_table, is_web, part_at, product, sum_of_rows
from tests.rows import all_sets, all_tables, drawn_table, drawn_tables, drawn_web, drawn_webs, sum_at, times
from tests.samples import all_words, drawn_words

SMALL = [[0, 1, 1], [1, 1, 0], [1, 0, 0]]


class Known(unittest.TestCase):
    def test_sizes_nought_to_ten(self):
        self.assertIs(is_table([]), True)
        self.assertIs(is_web([]), True)
        for table in drawn_tables():
            self.assertIs(is_table(table), True)
            self.assertIs(is_web(table), not any(table[i][i] for i in range(len(table))))
        for web in drawn_webs():
            self.assertIs(is_web(web), True)
            self.assertIs(is_table(web), True)

    def test_both_truths_of_size_one(self):
        self.assertEqual([is_table([[0]]), is_table([[1]]), is_web([[0]]), is_web([[1]])], [True, True, True, False])

    def test_a_web_has_nought_at_each_point_with_itself(self):
        for size in range(1, 11):
            for i in range(size):
                web = drawn_web(size, size)
                web[i][i] = 1
                self.assertIs(is_web(web), False)
                self.assertIs(is_table(web), True)

    def neither(self, thing):
        self.assertIs(is_table(thing), False, repr(thing))
        self.assertIs(is_web(thing), False, repr(thing))

    def test_eleven_rows(self):
        self.neither(drawn_web(11, 5))
        self.neither(drawn_web(12, 5))
        self.neither([[0] * 100 for row in range(100)])
        self.neither([[]] * 11)

    def test_rows_too_long_and_too_short(self):
        for size in range(1, 11):
            for i in range(size):
                longer, shorter, empty = drawn_web(size, 3), drawn_web(size, 3), drawn_web(size, 3)
                longer[i].append(0)
                shorter[i].pop()
                empty[i] = []
                for thing in (longer, shorter, empty):
                    self.neither(thing)
        self.neither([[]])
        self.neither([[], []])
        self.neither([[0, 0], [0, 0], [0, 0]])
        self.neither([[0, 0, 0], [0, 0, 0]])

    def test_rows_that_are_no_lists(self):
        for row in ((0, 0), "00", None, 0, {0: 0, 1: 0}, {0, 1}, range(2), b"00"):
            self.neither([[0, 0], row])
            self.neither([row, [0, 0]])

    def test_wrong_numbers(self):
        for number in (2, -1, 3, 10 ** 59, -(10 ** 59), True, False, None, "0", "1", "", [0], (), 0.0, 1.0, 1j):
            for i in range(3):
                for j in range(3):
                    table = [[0] * 3 for row in range(3)]
                    table[i][j] = number
                    table[j][i] = number
                    self.neither(table)
        self.neither([[False]])
        self.neither([[True]])

    def test_numbers_unlike_the_ones_across(self):
        for size in range(2, 11):
            for i in range(size):
                for j in range(size):
                    if i != j:
                        web = drawn_web(size, i + j)
                        web[i][j] = 1 - web[i][j]
                        self.neither(web)

    def test_things_that_are_no_lists(self):
        for thing in (None, 0, 1, True, "", "[]", "[[0]]", (), ([0],), {}, {0: [0]}, set(), range(0), 0.5, len, object()):
            self.neither(thing)
        self.neither([0])
        self.neither([None])
        self.neither(["a"])

    def test_what_is_handed_in_is_not_changed(self):
        table = drawn_table(4, 2)
        is_table(table)
        is_web(table)
        self.assertEqual(table, drawn_table(4, 2))


def crossings_by_turns(word):
    """[13] by the order of the four signs of two letters."""
    letters = sorted(set(word))
    table = []
    for one in letters:
        row = []
        for other in letters:
            signs = "".join(sign for sign in word if sign in (one, other))
            row.append(int(signs in (one + other + one + other, other + one + other + one) and one != other))
        table.append(row)
    return table


class Crossings(unittest.TestCase):
    def test_small_ones(self):
        self.assertEqual(crossings("aa"), [[0]])
        self.assertEqual(crossings("abab"), [[0, 1], [1, 0]])
        self.assertEqual(crossings("aabb"), [[0, 0], [0, 0]])
        self.assertEqual(crossings("abba"), [[0, 0], [0, 0]])
        self.assertEqual(crossings("zbzmbm"), [[0, 1, 1], [1, 0, 0], [1, 0, 0]])
        self.assertEqual(crossings("cacbab"), [[0, 1, 1], [1, 0, 0], [1, 0, 0]])

    def test_words_of_one_to_ten_letters(self):
        for word in drawn_words() + all_words(3) + all_words(4):
            web = crossings(word)
            self.assertEqual(web, crossings_by_turns(word))
            self.assertTrue(is_web(web))

    def test_the_same_for_the_word_shifted_and_backwards(self):
        for word in drawn_words(10, 4):
            for by in range(len(word)):
                shifted = word[by:] + word[:by]
                self.assertEqual(crossings(shifted), crossings(word))
                self.assertEqual(crossings(shifted[::-1]), crossings(word))

    def test_told_lists_are_the_askers_own(self):
        told = crossings("abab")
        told[0][0] = 9
        told[1].clear()
        self.assertEqual(crossings("abab"), [[0, 1], [1, 0]])


class Part(unittest.TestCase):
    def test_small_ones(self):
        self.assertEqual(part_at(SMALL, []), [])
        self.assertEqual(part_at(SMALL, [1]), [[1]])
        self.assertEqual(part_at(SMALL, [0, 2]), [[0, 1], [1, 0]])
        self.assertEqual(part_at(SMALL, [0, 1, 2]), SMALL)
        self.assertEqual(part_at([], []), [])

    def test_all_sets(self):
        for size in range(11):
            table = drawn_table(size, size)
            for numbers in all_sets(range(size)):
                part = part_at(table, list(numbers))
                self.assertEqual(len(part), len(numbers))
                for at, i in enumerate(numbers):
                    self.assertEqual(part[at], [table[i][j] for j in numbers])

    def test_told_lists_are_the_askers_own(self):
        table = [list(row) for row in SMALL]
        numbers = [0, 1, 2]
        told = part_at(table, numbers)
        for row in told:
            row.clear()
        self.assertEqual((table, numbers), (SMALL, [0, 1, 2]))


class Sum(unittest.TestCase):
    def test_small_ones(self):
        self.assertEqual(sum_of_rows(SMALL, []), [0, 0, 0])
        self.assertEqual(sum_of_rows(SMALL, [2]), [1, 0, 0])
        self.assertEqual(sum_of_rows(SMALL, [0, 1]), [1, 0, 1])
        self.assertEqual(sum_of_rows(SMALL, [2, 1, 0]), [0, 0, 1])
        self.assertEqual(sum_of_rows([], []), [])

    def test_all_sets_in_any_order(self):
        for size in range(11):
            table = drawn_table(size, 3 * size)
            chance = Random(size)
            for numbers in all_sets(range(size)):
                mixed = chance.sample(numbers, len(numbers))
                self.assertEqual(sum_of_rows(table, mixed), sum_at(table, numbers))

    def test_told_lists_are_the_askers_own(self):
        table = [list(row) for row in SMALL]
        numbers = [2]
        told = sum_of_rows(table, numbers)
        told.clear()
        sum_of_rows(table, numbers).append(1)
        self.assertEqual((table, numbers), (SMALL, [2]))


class Product(unittest.TestCase):
    def test_small_ones(self):
        self.assertEqual(product([], []), [])
        self.assertEqual(product([[1]], [[1]]), [[1]])
        self.assertEqual(product([[1]], [[0]]), [[0]])
        self.assertEqual(product([[0, 1], [1, 0]], [[1, 0], [0, 0]]), [[0, 0], [1, 0]])
        self.assertEqual(product([[1, 0], [0, 0]], [[0, 1], [1, 0]]), [[0, 1], [0, 0]])
        self.assertEqual(product([[1, 1], [1, 1]], [[1, 1], [1, 1]]), [[0, 0], [0, 0]])

    def test_all_of_size_two(self):
        for one in all_tables(2):
            for other in all_tables(2):
                self.assertEqual(product(one, other), times(one, other))

    def test_sizes_up_to_ten_both_ways_round(self):
        for size in range(11):
            for seed in range(10):
                one, other = drawn_table(size, seed), drawn_table(size, seed + 50)
                self.assertEqual(product(one, other), times(one, other))
                self.assertEqual(product(other, one), times(other, one))

    def test_told_lists_are_the_askers_own(self):
        one, other = [[1, 0], [0, 1]], [[0, 1], [1, 0]]
        told = product(one, other)
        for row in told:
            row.clear()
        self.assertEqual((one, other), ([[1, 0], [0, 1]], [[0, 1], [1, 0]]))


if __name__ == "__main__":
    unittest.main()
