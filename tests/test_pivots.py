import unittest
from copy import deepcopy
from itertools import combinations, permutations, product

from fourway.errors import NoPivot
from fourway.pivots import pivoted
from tests.rows import all_sets, all_tables, drawn_tables, is_undone_part, rank_by_sums

FAR = 10 ** 59


def pivots_of(table):
    """Every list of numbers at which [22] lets the table be pivoted."""
    size = range(len(table))
    ones = [[v] for v in size if table[v][v] == 1]
    pairs = [[u, v] for u, v in permutations(size, 2) if table[u][v] and not table[u][u] and not table[v][v]]
    return ones + pairs


def pivoted_by_the_words(table, numbers):
    told = deepcopy(table)
    others = [i for i in range(len(table)) if i not in numbers]
    if len(numbers) == 1:
        for i, j in product(others, repeat=2):
            if table[i][numbers[0]] and table[j][numbers[0]]:
                told[i][j] = 1 - table[i][j]
        return told
    u, v = numbers
    for i, j in combinations(others, 2):
        one = {w for w in numbers if table[i][w]}
        other = {w for w in numbers if table[j][w]}
        if one and other and one != other:
            told[i][j] = told[j][i] = 1 - table[i][j]
    for i in others:
        told[u][i] = told[i][u] = table[v][i]
        told[v][i] = told[i][v] = table[u][i]
    return told


def tables():
    return [table for size in range(5) for table in all_tables(size)] + drawn_tables(range(5, 11), 6)


class Pivoted(unittest.TestCase):
    def test_at_one(self):
        self.assertEqual(pivoted([[1]], [0]), [[1]])
        self.assertEqual(pivoted([[1, 1], [1, 0]], [0]), [[1, 1], [1, 1]])
        self.assertEqual(pivoted([[1, 0], [0, 1]], [1]), [[1, 0], [0, 1]])
        self.assertEqual(
            pivoted([[0, 0, 1], [0, 1, 1], [1, 1, 1]], [2]), [[1, 1, 1], [1, 0, 1], [1, 1, 1]])

    def test_at_two(self):
        self.assertEqual(pivoted([[0, 1], [1, 0]], [0, 1]), [[0, 1], [1, 0]])
        table = [[0, 1, 1, 0], [1, 0, 0, 1], [1, 0, 1, 0], [0, 1, 0, 0]]
        self.assertEqual(pivoted(table, [0, 1]), [[0, 1, 0, 1], [1, 0, 1, 0], [0, 1, 1, 1], [1, 0, 1, 0]])
        self.assertEqual(pivoted(table, [1, 0]), pivoted(table, [0, 1]))

    def test_by_the_words(self):
        seen = set()
        for table in tables():
            for numbers in pivots_of(table):
                self.assertEqual(pivoted(table, numbers), pivoted_by_the_words(table, numbers))
                seen.add((len(table), len(numbers)))
        self.assertLessEqual({(10, 1), (10, 2), (4, 1), (4, 2)}, seen)

    def test_twice_at_the_same_is_the_table_again(self):
        for table in tables():
            for numbers in pivots_of(table):
                self.assertEqual(pivoted(pivoted(table, numbers), numbers), table)

    def test_the_sets_that_can_be_undone(self):
        for table in [table for size in range(4) for table in all_tables(size)] + drawn_tables(range(4, 6), 3):
            for numbers in pivots_of(table):
                told = pivoted(table, numbers)
                for some in all_sets(range(len(table))):
                    changed = sorted(set(some) ^ set(numbers))
                    self.assertEqual(is_undone_part(told, some), is_undone_part(table, changed))

    def test_the_rests_differ_by_no_more_than_the_pivot_has_numbers(self):
        for table in tables():
            for numbers in pivots_of(table):
                gap = rank_by_sums(pivoted(table, numbers)) - rank_by_sums(table)
                self.assertLessEqual(abs(gap), len(numbers))

    def test_what_is_handed_in_stays_and_what_is_told_is_new(self):
        for table, numbers in (([[1, 0], [0, 1]], [0]), ([[0, 1], [1, 0]], [0, 1])):
            before = deepcopy((table, numbers))
            told = pivoted(table, numbers)
            for row in told:
                row.clear()
            self.assertEqual((table, numbers), before)


class Refused(unittest.TestCase):
    def refused(self, table, numbers):
        with self.assertRaises(NoPivot, msg=(table, numbers)):
            pivoted(table, numbers)

    def test_no_numbers(self):
        self.refused([], [])
        self.refused([[1]], [])

    def test_one_without_one_at_itself(self):
        self.refused([[0]], [0])
        self.refused([[1, 1], [1, 0]], [1])

    def test_two_without_one_with_one_another(self):
        self.refused([[0, 0], [0, 0]], [0, 1])

    def test_two_with_one_at_one_of_them(self):
        self.refused([[1, 1], [1, 0]], [0, 1])
        self.refused([[0, 1], [1, 1]], [0, 1])
        self.refused([[1, 1], [1, 1]], [0, 1])
        self.refused([[1, 0], [0, 1]], [0, 1])

    def test_one_twice(self):
        self.refused([[1]], [0, 0])
        self.refused([[0]], [0, 0])
        self.refused([[1, 1], [1, 1]], [1, 1])

    def test_three_and_more(self):
        for numbers in ([0, 1, 2], [0, 1, 0], [0, 0, 0], [0, 1] * 50):
            self.refused([[0, 1, 1], [1, 0, 1], [1, 1, 0]], numbers)
            self.refused([[1, 0, 0], [0, 1, 0], [0, 0, 1]], numbers)

    def test_numbers_that_the_table_lacks(self):
        for number in (-1, -2, -3, 2, 3, FAR, -FAR):
            for table in ([[1, 1], [1, 1]], [[0, 1], [1, 0]]):
                self.refused(table, [number])
                self.refused(table, [0, number])
                self.refused(table, [number, 1])
        self.refused([], [0])
        self.refused([], [0, 1])

    def test_truths_stand_for_no_numbers(self):
        self.refused([[1, 0], [0, 1]], [True])
        self.refused([[0, 1], [1, 0]], [False, True])

    def test_every_short_list_of_numbers(self):
        for table in [table for size in range(4) for table in all_tables(size)]:
            allowed = pivots_of(table)
            for many in range(4):
                for numbers in product(range(-1, len(table) + 1), repeat=many):
                    if list(numbers) not in allowed:
                        self.refused(table, list(numbers))


if __name__ == "__main__":
    unittest.main()
