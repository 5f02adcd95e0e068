import unittest
from copy import deepcopy
from random import Random

from fourway.ranks import paper_of, rest_of, shows_rest, undoing
from tests.rows import (
    all_sets, all_tables, drawn_table, drawn_tables, greatest_by_sets, is_undone_part, part_of, rank_by_sums, sum_at,
    times, unit)

FAR = 10 ** 59 + 1


def small_tables():
    return [table for size in range(4) for table in all_tables(size)]


def nothings_by_sets(table, part):
    """For each number not in part the only list that [16] asks for: found among all sets of the part."""
    lists = []
    for i in range(len(table)):
        if i not in part:
            found = [sorted(some + (i,)) for some in all_sets(part) if not any(sum_at(table, some + (i,)))]
            lists.append(found)
    return lists


def is_paper(table, paper):
    """[16], word for word."""
    part, undone, nothings = paper
    size = len(table)
    if list(part) != sorted(set(part)) or not set(part) <= set(range(size)):
        return False
    if len(part) != rank_by_sums(table) or not is_undone_part(table, part):
        return False
    if len(undone) != len(part) or any(len(row) != len(part) for row in undone):
        return False
    if any(number not in (0, 1) for row in undone for number in row):
        return False
    if times(part_of(table, part), undone) != unit(len(part)):
        return False
    return [[numbers] for numbers in nothings] == nothings_by_sets(table, part)


class Undoing(unittest.TestCase):
    def test_small_ones(self):
        self.assertEqual(undoing([]), [])
        self.assertEqual(undoing([[1]]), [[1]])
        self.assertIsNone(undoing([[0]]))
        self.assertEqual(undoing([[0, 1], [1, 0]]), [[0, 1], [1, 0]])
        self.assertEqual(undoing([[1, 1], [1, 0]]), [[0, 1], [1, 1]])
        self.assertIsNone(undoing([[1, 1], [1, 1]]))
        self.assertIsNone(undoing([[0, 1, 1], [1, 0, 1], [1, 1, 0]]))

    def agree(self, table):
        undone = undoing(table)
        self.assertEqual(undone is not None, rank_by_sums(table) == len(table), table)
        if undone is not None:
            self.assertEqual(times(table, undone), unit(len(table)))
            self.assertEqual(times(undone, table), unit(len(table)))
            self.assertEqual(undone, [list(column) for column in zip(*undone)])
        return undone is not None

    def test_every_small_table(self):
        for table in small_tables() + list(all_tables(4)):
            self.agree(table)

    def test_sizes_up_to_ten(self):
        told = {size: set() for size in range(11)}
        for table in drawn_tables(each=40):
            told[len(table)].add(self.agree(table))
        self.assertEqual(told[0], {True})
        for size in range(1, 11):
            self.assertEqual(told[size], {True, False}, size)

    def test_beyond_ten_nothing_is_refused(self):
        self.assertEqual(undoing(unit(13)), unit(13))

    def test_told_lists_are_the_askers_own(self):
        table = unit(3)
        told = undoing(table)
        for row in told:
            row.clear()
        self.assertEqual(table, unit(3))
        self.assertEqual(undoing(table), unit(3))


class Rest(unittest.TestCase):
    def test_small_ones(self):
        self.assertEqual(rest_of([]), 0)
        self.assertEqual(rest_of([[0]]), 1)
        self.assertEqual(rest_of([[1]]), 0)
        self.assertEqual(rest_of([[1, 1], [1, 1]]), 1)
        self.assertEqual(rest_of([[0] * 10 for row in range(10)]), 10)
        self.assertEqual(rest_of(unit(10)), 0)

    def test_the_greatest_part_that_can_be_undone(self):
        for table in small_tables() + drawn_tables(range(4, 7), 6):
            self.assertEqual(rest_of(table), len(table) - greatest_by_sets(table))

    def test_sizes_up_to_ten(self):
        told = set()
        for table in drawn_tables():
            rest = len(table) - rank_by_sums(table)
            self.assertEqual(rest_of(table), rest)
            told.add(rest)
        self.assertLessEqual({0, 1, 2, 3, 4, 5}, told)


class Paper(unittest.TestCase):
    def test_each_told_paper_gone_through(self):
        for table in small_tables() + list(all_tables(4)) + drawn_tables():
            paper = paper_of(table)
            self.assertIsInstance(paper, tuple)
            self.assertEqual([one.__class__ for one in paper], [list, list, list])
            self.assertTrue(is_paper(table, paper), (table, paper))
            self.assertEqual(rest_of(table), len(table) - len(paper[0]))
            self.assertIs(shows_rest(table, paper), True)

    def test_only_one_paper_where_there_is_but_one(self):
        self.assertEqual(paper_of([]), ([], [], []))
        self.assertEqual(paper_of([[0]]), ([], [], [[0]]))
        self.assertEqual(paper_of([[1]]), ([0], [[1]], []))
        self.assertEqual(paper_of([[0, 0], [0, 1]]), ([1], [[1]], [[0]]))

    def test_what_is_handed_in_is_not_changed_and_what_is_told_is_new(self):
        for table in drawn_tables(range(6), 4):
            before = deepcopy(table)
            paper = paper_of(table)
            kept = deepcopy(paper)
            shows_rest(table, paper)
            self.assertEqual((table, paper), (before, kept))
            for one in paper:
                for row in one:
                    if isinstance(row, list):
                        row.clear()
                one.clear()
            self.assertEqual(table, before)
            self.assertEqual(paper_of(table), kept)


def whole_numbers():
    return (-FAR, -1, 0, 1, 2, 3, 9, 10, FAR)


def spoilt_lists(numbers):
    """A list of numbers with one taken out, put in, changed or moved."""
    for at in range(len(numbers)):
        yield numbers[:at] + numbers[at + 1:]
        yield numbers[:at] + [numbers[at]] + numbers[at:]
        for number in whole_numbers():
            yield numbers[:at] + [number] + numbers[at + 1:]
    for at in range(len(numbers) + 1):
        for number in whole_numbers():
            yield numbers[:at] + [number] + numbers[at:]
    yield numbers[::-1]
    yield []


def spoilt_rows(rows):
    """A list of lists with one taken out, put in, moved or itself spoilt."""
    for at in range(len(rows)):
        yield rows[:at] + rows[at + 1:]
        yield rows[:at] + [rows[at]] + rows[at:]
        for row in spoilt_lists(rows[at]):
            yield rows[:at] + [row] + rows[at + 1:]
    for at in range(len(rows) + 1):
        for row in ([], [0], [1], [0, 1], [-FAR, FAR]):
            yield rows[:at] + [row] + rows[at:]
    yield rows[::-1]
    yield []


class Looker(unittest.TestCase):
    def agree(self, table, paper):
        self.assertIs(shows_rest(table, paper), is_paper(table, paper), (table, paper))

    def test_spoilt_in_any_one_way(self):
        for table in small_tables() + drawn_tables(range(4, 7), 2):
            part, undone, nothings = paper_of(table)
            for spoilt in spoilt_lists(part):
                self.agree(table, (spoilt, undone, nothings))
            for spoilt in spoilt_rows(undone):
                self.agree(table, (part, spoilt, nothings))
            for spoilt in spoilt_rows(nothings):
                self.agree(table, (part, undone, spoilt))

    def test_every_other_paper_of_a_table(self):
        several = 0
        for table in small_tables() + drawn_tables(range(4, 6), 6):
            parts = [part for part in all_sets(range(len(table))) if is_undone_part(table, part)]
            for part in parts:
                undone = [row for row in all_tables(len(part)) if times(part_of(table, part), row) == unit(len(part))]
                nothings = [found[0] for found in nothings_by_sets(table, part) if found]
                self.agree(table, (list(part), undone[0], nothings))
                several += len(part) == len(paper_of(table)[0]) and list(part) != paper_of(table)[0]
        self.assertGreater(several, 20)

    def test_a_part_that_is_too_small_with_all_else_fitting(self):
        self.assertIs(shows_rest(unit(2), ([0], [[1]], [])), False)
        self.assertIs(shows_rest(unit(2), ([0], [[1]], [[1]])), False)
        self.assertIs(shows_rest([[1, 1], [1, 1]], ([], [], [[0], [1]])), False)

    def test_numbers_that_the_table_lacks(self):
        self.assertIs(shows_rest([[1]], ([-1], [[1]], [[0]])), False)
        self.assertIs(shows_rest([[1]], ([1], [[1]], [])), False)
        self.assertIs(shows_rest([[1]], ([FAR], [[1]], [])), False)
        self.assertIs(shows_rest([], ([0], [[1]], [])), False)

    def test_truths_stand_for_no_numbers(self):
        self.assertIs(shows_rest([[1]], ([False], [[1]], [])), False)
        self.assertIs(shows_rest([[1]], ([0], [[True]], [])), False)
        self.assertIs(shows_rest([[0]], ([], [], [[False]])), False)

    def test_lists_of_any_lengths_and_numbers(self):
        chance = Random(5)

        def numbers():
            return [chance.choice(whole_numbers()) for step in range(chance.choice((0, 1, 2, 3, 7, 100)))]

        for step in range(600):
            table = drawn_table(chance.randrange(11), step)
            paper = (numbers(), [numbers() for row in range(3)], [numbers() for row in range(chance.randrange(4))])
            self.agree(table, paper)
            part, undone, nothings = paper_of(table)
            self.agree(table, (part, undone, paper[1]))
            self.agree(table, (paper[0], undone, nothings))
            self.agree(table, (part, paper[1], nothings))

    def test_the_paper_of_another_table(self):
        told = set()
        for one in all_tables(3):
            for other in list(all_tables(3))[::7]:
                paper = paper_of(other)
                self.agree(one, paper)
                told.add(shows_rest(one, paper))
        self.assertEqual(told, {True, False})


if __name__ == "__main__":
    unittest.main()
