import unittest

from fourway.choices import joined
from fourway.rounds import many_rounds, round_of, rounds_of
from tests.samples import nets_with_choices
from tests.walks import PAIRS, parts_by_merging

LOOPS = [1, 0, 3, 2]
ACROSS = [4, 5, 6, 7, 0, 1, 2, 3]


def are_joined(choice, one, other):
    pairs = PAIRS[choice[one // 4]]
    return one // 4 == other // 4 and tuple(sorted((one % 4, other % 4))) in pairs


class Round(unittest.TestCase):
    def test_ties_that_come_back_to_the_place(self):
        self.assertEqual(round_of(LOOPS, [0], 0), [0, 1])
        self.assertEqual(round_of(LOOPS, [0], 1), [1, 0])
        self.assertEqual(round_of(LOOPS, [0], 3), [3, 2])
        self.assertEqual(round_of(LOOPS, [1], 0), [0, 2, 3, 1])
        self.assertEqual(round_of(LOOPS, [1], 2), [2, 0, 1, 3])
        self.assertEqual(round_of(LOOPS, [2], 1), [1, 2, 3, 0])

    def test_several_ties_between_two_places(self):
        self.assertEqual(round_of(ACROSS, [0, 0], 0), [0, 1, 5, 4])
        self.assertEqual(round_of(ACROSS, [0, 1], 0), [0, 1, 5, 7, 3, 2, 6, 4])
        self.assertEqual(round_of(ACROSS, [2, 0], 6), [6, 7, 3, 0, 4, 5, 1, 2])

    def test_joined_and_tied_by_turns_until_the_first_end_comes_again(self):
        for net, choice in nets_with_choices():
            for end in range(len(net)):
                ends = round_of(net, choice, end)
                self.assertEqual(ends[0], end)
                self.assertEqual(len(ends) % 2, 0)
                self.assertEqual(len(set(ends)), len(ends))
                for at in range(0, len(ends), 2):
                    self.assertTrue(are_joined(choice, ends[at], ends[at + 1]))
                    self.assertEqual(net[ends[at + 1]], ends[(at + 2) % len(ends)])


class Rounds(unittest.TestCase):
    def test_one_place(self):
        self.assertEqual(rounds_of(LOOPS, [0]), [[0, 1], [2, 3]])
        self.assertEqual(rounds_of(LOOPS, [1]), [[0, 2, 3, 1]])
        self.assertEqual(rounds_of(LOOPS, [2]), [[0, 3, 2, 1]])

    def test_two_places(self):
        self.assertEqual(rounds_of(ACROSS, [0, 0]), [[0, 1, 5, 4], [2, 3, 7, 6]])
        self.assertEqual(rounds_of(ACROSS, [1, 2]), [[0, 2, 6, 5, 1, 3, 7, 4]])
        self.assertEqual(rounds_of(ACROSS, [1, 1]), [[0, 2, 6, 4], [1, 3, 7, 5]])

    def test_two_parts_without_ties_between(self):
        net = [1, 0, 3, 2, 5, 4, 7, 6]
        self.assertEqual(rounds_of(net, [0, 1]), [[0, 1], [2, 3], [4, 6, 7, 5]])

    def test_each_end_just_once_in_one_round(self):
        for net, choice in nets_with_choices():
            ends = [end for ends in rounds_of(net, choice) for end in ends]
            self.assertEqual(sorted(ends), list(range(len(net))))

    def test_each_is_the_round_of_its_least_end_and_they_rise(self):
        for net, choice in nets_with_choices():
            rounds = rounds_of(net, choice)
            self.assertEqual(rounds, [round_of(net, choice, min(ends)) for ends in rounds])
            self.assertEqual(rounds, sorted(rounds))

    def test_they_are_what_ties_and_joints_hold_together(self):
        seen = set()
        for net, choice in nets_with_choices():
            parts = parts_by_merging(net, choice)
            self.assertEqual({frozenset(ends) for ends in rounds_of(net, choice)}, parts)
            self.assertEqual(many_rounds(net, choice), len(parts))
            seen.add(len(net) // 4)
        self.assertEqual(seen, set(range(1, 9)))

    def test_the_most_and_the_least(self):
        net = [end ^ 1 for end in range(32)]
        self.assertEqual(many_rounds(net, [0] * 8), 16)
        self.assertEqual(many_rounds(net, [1] * 8), 8)
        self.assertEqual(many_rounds(net, [2] * 8), 8)

    def test_beyond_eight_places_nothing_is_refused(self):
        net = [end ^ 1 for end in range(40)]
        self.assertEqual(many_rounds(net, [0] * 10), 20)
        self.assertEqual(round_of(net, [0] * 10, 39), [39, 38])


class Own(unittest.TestCase):
    def test_told_lists_are_the_askers_own(self):
        told = rounds_of(ACROSS, [0, 0])
        told[0].clear()
        told.append([99])
        self.assertEqual(rounds_of(ACROSS, [0, 0]), [[0, 1, 5, 4], [2, 3, 7, 6]])
        ends = round_of(ACROSS, [0, 0], 0)
        ends.clear()
        self.assertEqual(round_of(ACROSS, [0, 0], 0), [0, 1, 5, 4])

    def test_what_is_handed_in_is_not_changed(self):
        net, choice = list(ACROSS), [0, 1]
        round_of(net, choice, 3)
        rounds_of(net, choice)
        many_rounds(net, choice)
        self.assertEqual((net, choice), (ACROSS, [0, 1]))


class Together(unittest.TestCase):
    def test_the_pairs_of_the_tests_are_those_of_the_ways(self):
        for way, pairs in enumerate(PAIRS):
            self.assertEqual({tuple(sorted((seat, joined(way, seat)))) for seat in range(4)}, set(pairs))


if __name__ == "__main__":
    unittest.main()
