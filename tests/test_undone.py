import unittest
from copy import deepcopy

from fourway.errors import NoSet, TooMany
from fourway.undone import can_undo, other_number, sets_of
from tests.rows import all_sets, all_tables, drawn_table, drawn_tables, is_undone_part, unit

FAR = 10 ** 59


def tables():
    return [table for size in range(4) for table in all_tables(size)] + drawn_tables(range(4, 7), 5)


class Can(unittest.TestCase):
    def test_small_ones(self):
        self.assertIs(can_undo([], []), True)
        self.assertIs(can_undo([[0]], []), True)
        self.assertIs(can_undo([[0]], [0]), False)
        self.assertIs(can_undo([[1]], [0]), True)
        self.assertIs(can_undo([[0, 1], [1, 0]], [0]), False)
        self.assertIs(can_undo([[0, 1], [1, 0]], [0, 1]), True)

    def test_all_sets(self):
        for table in tables() + drawn_tables(range(7, 11), 1):
            for numbers in all_sets(range(len(table))):
                self.assertIs(can_undo(table, list(numbers)), is_undone_part(table, numbers))

    def test_what_is_no_set_of_the_tables_numbers(self):
        for numbers in ([2], [-1], [0, 2], [1, 0], [0, 0], [FAR]):
            self.assertIs(can_undo(unit(2), numbers), False, numbers)

    def test_what_is_handed_in_is_not_changed(self):
        table, numbers = [[0, 1], [1, 0]], [0, 1]
        can_undo(table, numbers)
        self.assertEqual((table, numbers), ([[0, 1], [1, 0]], [0, 1]))


class Sets(unittest.TestCase):
    def test_small_ones(self):
        self.assertEqual(sets_of([]), [[]])
        self.assertEqual(sets_of([[0]]), [[]])
        self.assertEqual(sets_of([[1]]), [[], [0]])
        self.assertEqual(sets_of([[0, 1], [1, 0]]), [[], [0, 1]])
        self.assertEqual(sets_of(unit(3)), [[], [0], [0, 1], [0, 1, 2], [0, 2], [1], [1, 2], [2]])

    def test_all_of_them_rising(self):
        for table in tables():
            wanted = sorted(list(numbers) for numbers in all_sets(range(len(table))) if is_undone_part(table, numbers))
            self.assertEqual(sets_of(table), wanted)

    def test_from_seven_on_too_many(self):
        self.assertEqual(len(sets_of(unit(6))), 64)
        for size in (7, 8, 9, 10):
            for table in (unit(size), drawn_table(size, 1), [[0] * size for row in range(size)]):
                with self.assertRaises(TooMany):
                    sets_of(table)

    def test_told_lists_are_the_askers_own(self):
        table = unit(2)
        told = sets_of(table)
        for numbers in told:
            numbers.append(9)
        told.clear()
        self.assertEqual(sets_of(table), [[], [0], [0, 1], [1]])
        self.assertEqual(table, unit(2))


class Other(unittest.TestCase):
    def test_small_ones(self):
        self.assertEqual(other_number([[1]], [], [0], 0), 0)
        self.assertEqual(other_number([[1]], [0], [], 0), 0)
        self.assertEqual(other_number([[0, 1], [1, 0]], [], [0, 1], 0), 1)
        self.assertEqual(other_number([[0, 1], [1, 0]], [], [0, 1], 1), 0)
        self.assertEqual(other_number([[0, 1], [1, 0]], [0, 1], [], 1), 0)

    def test_each_two_sets_and_each_number_in_just_one(self):
        for table in tables():
            sets = [numbers for numbers in all_sets(range(len(table))) if is_undone_part(table, numbers)]
            for one in sets[::2 if len(table) == 6 else 1]:
                for other in sets[::3 if len(table) == 6 else 1]:
                    for number in sorted(set(one) ^ set(other)):
                        told = other_number(table, list(one), list(other), number)
                        self.assertIn(told, set(one) ^ set(other))
                        self.assertTrue(is_undone_part(table, sorted(set(one) ^ {number, told})))

    def test_sizes_up_to_ten(self):
        for size in range(7, 11):
            table = drawn_table(size, 4 * size + 1)
            sets = [numbers for numbers in all_sets(range(size)) if is_undone_part(table, numbers)]
            for one, other in zip(sets[:40], sets[:-40:-1]):
                for number in sorted(set(one) ^ set(other)):
                    told = other_number(table, list(one), list(other), number)
                    self.assertIn(told, set(one) ^ set(other))
                    self.assertTrue(is_undone_part(table, sorted(set(one) ^ {number, told})))

    def refused(self, table, one, other, number):
        with self.assertRaises(NoSet, msg=(table, one, other, number)):
            other_number(table, one, other, number)

    def test_sets_that_cannot_be_undone(self):
        pair = [[0, 1], [1, 0]]
        self.refused(pair, [0], [], 0)
        self.refused(pair, [], [0], 0)
        self.refused(pair, [0], [1], 0)
        self.refused(pair, [0], [0, 1], 1)
        self.refused(pair, [0, 1], [1], 0)

    def test_numbers_in_both_or_in_none(self):
        self.refused(unit(3), [0, 1], [0], 0)
        self.refused(unit(3), [0, 1], [0], 2)
        self.refused(unit(3), [], [], 0)
        self.refused(unit(3), [0, 1, 2], [0, 1, 2], 2)

    def test_numbers_that_the_table_lacks(self):
        for number in (-1, -3, 3, 4, FAR, -FAR):
            self.refused(unit(3), [0, 1], [0], number)
        self.refused([], [], [], 0)

    def test_all_that_is_to_be_refused(self):
        for table in [table for size in range(4) for table in all_tables(size)][::3]:
            sets = all_sets(range(len(table)))
            for one in sets:
                for other in sets:
                    both = is_undone_part(table, one) and is_undone_part(table, other)
                    for number in range(-1, len(table) + 1):
                        if not both or number not in set(one) ^ set(other):
                            self.refused(table, list(one), list(other), number)

    def test_what_is_handed_in_is_not_changed(self):
        given = (unit(3), [0, 1], [2], 2)
        kept = deepcopy(given)
        other_number(*given)
        self.assertEqual(given, kept)


if __name__ == "__main__":
    unittest.main()
