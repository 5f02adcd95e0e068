import unittest
from collections import Counter
from copy import deepcopy
from itertools import permutations, product
from random import Random

from fourway.counts import arrowed_counts, counts_of, table_counts, worth_at
from fourway.errors import TooMany
from fourway.reading import net_by
from fourway.tables import crossings
from tests.rows import all_sets, all_tables, drawn_table, drawn_tables, part_of, rank_by_sums, unit
from tests.samples import all_words, drawn_net, drawn_words, small_nets
from tests.walks import rounds_by_merging

FAR = 10 ** 60 - 1


def listed(counted):
    return [counted[k] for k in range(max(counted) + 1)]


def counts_by_walking(net):
    choices = product(range(3), repeat=len(net) // 4)
    return listed(Counter(rounds_by_merging(net, choice) for choice in choices))


def counts_by_parts(table, ways):
    """[28], word for word, the rest by the sums of rows."""
    counted = Counter()
    for choice in product(ways, repeat=len(table)):
        numbers = [number for number, way in enumerate(choice) if way != 0]
        part = part_of(table, numbers)
        for at, number in enumerate(numbers):
            part[at][at] = int(choice[number] == 1)
        counted[len(part) - rank_by_sums(part)] += 1
    return listed(counted)


def nets(most, each):
    drawn = [drawn_net(places, 50 * places + seed) for places in range(1, most + 1) for seed in range(each)]
    return small_nets() + drawn


def tables(most):
    return [table for size in range(4) for table in all_tables(size)] + drawn_tables(range(4, most + 1), 3)


class OfNets(unittest.TestCase):
    def test_small_ones(self):
        self.assertEqual(counts_of([1, 0, 3, 2]), [0, 2, 1])
        self.assertEqual(counts_of([4, 5, 6, 7, 0, 1, 2, 3]), [0, 6, 3])
        self.assertEqual(counts_of([1, 0, 3, 2, 5, 4, 7, 6]), [0, 0, 4, 4, 1])

    def test_against_all_choices_walked(self):
        seen = set()
        for net in nets(6, 4):
            self.assertEqual(counts_of(net), counts_by_walking(net))
            seen.add(len(net) // 4)
        self.assertEqual(seen, {1, 2, 3, 4, 5, 6})

    def test_six_places_each_by_itself(self):
        net = [end ^ 1 for end in range(24)]
        self.assertEqual(counts_of(net), [0, 0, 0, 0, 0, 0, 64, 192, 240, 160, 60, 12, 1])

    def test_every_order_tells_the_same(self):
        for net in nets(4, 3):
            for order in permutations(range(len(net) // 4)):
                self.assertEqual(counts_of(net, list(order)), counts_of(net))
        for places in (5, 6):
            net = drawn_net(places, 8)
            wanted = counts_by_walking(net)
            for order in list(permutations(range(places)))[::7]:
                self.assertEqual(counts_of(net, list(order)), wanted)

    def test_none_is_the_order_that_rises(self):
        net = drawn_net(5, 3)
        self.assertEqual(counts_of(net, None), counts_of(net, [0, 1, 2, 3, 4]))
        self.assertEqual(counts_of(net, order=None), counts_of(net, order=[4, 2, 0, 1, 3]))

    def test_seven_and_eight_places_are_too_many(self):
        for places in (7, 8):
            for order in (None, list(range(places)), list(range(places))[::-1], []):
                with self.assertRaises(TooMany):
                    counts_of(drawn_net(places, 1), order)

    def test_what_is_handed_in_stays_and_what_is_told_is_new(self):
        net, order = [4, 5, 6, 7, 0, 1, 2, 3], [1, 0]
        told = counts_of(net, order)
        told.clear()
        self.assertEqual((net, order), ([4, 5, 6, 7, 0, 1, 2, 3], [1, 0]))
        self.assertEqual(counts_of(net, order), [0, 6, 3])


class OfTables(unittest.TestCase):
    def test_small_ones(self):
        self.assertEqual((table_counts([]), arrowed_counts([])), ([1], [1]))
        self.assertEqual((table_counts([[0]]), arrowed_counts([[0]])), ([2, 1], [1, 1]))
        self.assertEqual((table_counts([[0, 1], [1, 0]]), arrowed_counts([[0, 1], [1, 0]])), ([6, 3], [2, 2]))
        self.assertEqual((table_counts(unit(2)), arrowed_counts(unit(2))), ([4, 4, 1], [1, 2, 1]))

    def test_against_all_choices(self):
        seen = set()
        for table in tables(6):
            self.assertEqual(table_counts(table), counts_by_parts(table, (0, 1, 2)))
            self.assertEqual(arrowed_counts(table), counts_by_parts(table, (0, 2)))
            seen.add(len(table))
        self.assertEqual(seen, set(range(7)))

    def test_what_stands_for_a_number_twice_is_not_looked_at(self):
        for size in range(1, 6):
            table = drawn_table(size, 11 * size)
            told = set()
            for diagonal in product((0, 1), repeat=size):
                for i, number in enumerate(diagonal):
                    table[i][i] = number
                told.add((tuple(table_counts(table)), tuple(arrowed_counts(table))))
            self.assertEqual(len(told), 1)

    def test_from_seven_on_too_many(self):
        for size in (7, 8, 9, 10):
            for table in (drawn_table(size, 1), unit(size)):
                for tell in (table_counts, arrowed_counts):
                    with self.assertRaises(TooMany):
                        tell(table)

    def test_the_counts_of_a_words_net_with_a_nought_ahead(self):
        for word in drawn_words(6, 5) + all_words(3):
            self.assertEqual(counts_of(net_by(word)), [0] + table_counts(crossings(word)))

    def test_what_is_handed_in_stays_and_what_is_told_is_new(self):
        table = [[1, 1], [1, 0]]
        for tell in (table_counts, arrowed_counts):
            kept = tell(table)
            tell(table).clear()
            self.assertEqual(tell(table), kept)
        self.assertEqual(table, [[1, 1], [1, 0]])


class Worth(unittest.TestCase):
    def test_no_counts(self):
        for x in (0, 1, -1, 7, FAR, -FAR):
            self.assertEqual(worth_at([], x), 0)

    def test_small_ones(self):
        self.assertEqual(worth_at([5], 0), 5)
        self.assertEqual(worth_at([5, 3], 0), 5)
        self.assertEqual(worth_at([0, 2, 1], 3), 15)
        self.assertEqual(worth_at([0, 2, 1], -3), 3)
        self.assertEqual(worth_at([-1, 0, 0, -2], -2), 15)

    def test_numbers_of_either_sign_and_great_ones(self):
        chance = Random(4)
        for step in range(200):
            counts = [chance.choice((0, 1, -1, FAR, -FAR, chance.randrange(-99, 99))) for k in range(step % 12)]
            x = chance.choice((0, 1, -1, 2, -2, FAR, -FAR, chance.randrange(-99, 99)))
            self.assertEqual(worth_at(counts, x), sum(count * x ** k for k, count in enumerate(counts)))

    def test_a_hundred_counts(self):
        self.assertEqual(worth_at([FAR] * 100, FAR), sum(FAR ** (k + 1) for k in range(100)))

    def test_the_list_is_not_changed(self):
        counts = [1, 2, 3]
        worth_at(counts, 5)
        self.assertEqual(counts, [1, 2, 3])

    def test_the_worths_of_counts(self):
        for table in tables(6):
            n = len(table)
            if n:
                counts = table_counts(table)
                even = sum(self.is_even(table, some) for some in all_sets(range(n)))
                self.assertEqual([worth_at(counts, x) for x in (1, -2, 2)], [3 ** n, 0, 2 ** n * even])

    def test_the_worths_of_arrowed_counts(self):
        for table in tables(6):
            n = len(table)
            if n:
                counts = arrowed_counts(table)
                ones = deepcopy(table)
                for i in range(n):
                    ones[i][i] = 1
                rest = n - rank_by_sums(ones)
                self.assertEqual([worth_at(counts, x) for x in (1, -2)], [2 ** n, (-1) ** n * (-2) ** rest])

    def is_even(self, table, some):
        return all(sum(table[i][j] for j in some if j != i) % 2 == 0 for i in some)


if __name__ == "__main__":
    unittest.main()
