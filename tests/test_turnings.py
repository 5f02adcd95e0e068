import unittest
from itertools import product

from fourway.changes import Turn
from fourway.errors import NoOne, TooMany
from fourway.reading import net_by, word_by
from fourway.turnings import turned_choice, walked, way_between
from tests.samples import drawn_choices, drawn_net, drawn_nets, drawn_words, small_nets
from tests.walks import rounds_by_merging

LOOPS = [1, 0, 3, 2]


def choices_of_one_round(net):
    choices = [list(choice) for choice in product(range(3), repeat=len(net) // 4)]
    return [choice for choice in choices if rounds_by_merging(net, choice) == 1]


def whole_nets(most, each):
    """Nets that hang together, of up to so many places."""
    nets = [net for net in small_nets() if choices_of_one_round(net)]
    for places in range(3, most + 1):
        drawn = [drawn_net(places, 900 * places + seed) for seed in range(4 * each)]
        nets += [net for net in drawn if choices_of_one_round(net)][:each]
    return nets + [net_by(word) for word in drawn_words(min(most, 4), 2)]


def ring_forms(word):
    """All that a word is called on the ring, wherever it begins and whichever way it goes."""
    return {one[by:] + one[:by] for one in (word, word[::-1]) for by in range(len(word))}


def turns_needed(net, start):
    """How many turns lead from a choice to each: a choice and its turned ones differ at one place alone."""
    ones = {tuple(choice) for choice in choices_of_one_round(net)}
    needed = {tuple(start): 0}
    edge = [tuple(start)]
    while edge:
        beyond = []
        for choice in edge:
            for other in ones:
                if other not in needed and sum(a != b for a, b in zip(choice, other)) == 1:
                    needed[other] = needed[choice] + 1
                    beyond.append(other)
        edge = beyond
    return needed


class Turned(unittest.TestCase):
    def test_small_ones(self):
        self.assertEqual(turned_choice(LOOPS, [1], 0), [2])
        self.assertEqual(turned_choice(LOOPS, [2], 0), [1])
        net = net_by("abab")
        self.assertEqual(turned_choice(net, [0, 0], 0), [1, 0])
        self.assertEqual(turned_choice(net, [2, 2], 1), [2, 1])

    def test_of_the_two_other_ways_just_one_leaves_one_round(self):
        for net in whole_nets(5, 3):
            for choice in choices_of_one_round(net):
                for place in range(len(choice)):
                    others = [choice[:place] + [way] + choice[place + 1:] for way in range(3) if way != choice[place]]
                    ones = [other for other in others if rounds_by_merging(net, other) == 1]
                    self.assertEqual([turned_choice(net, choice, place)], ones)

    def test_twice_is_the_choice_again(self):
        for net in whole_nets(4, 3):
            for choice in choices_of_one_round(net):
                for place in range(len(choice)):
                    self.assertEqual(turned_choice(net, turned_choice(net, choice, place), place), choice)

    def test_the_word_turned(self):
        for net in whole_nets(5, 2):
            for choice in choices_of_one_round(net):
                for place in range(len(choice)):
                    word = word_by(net, turned_choice(net, choice, place))
                    self.assertIn(word, ring_forms(Turn("abcdefgh"[place]).done(word_by(net, choice))))

    def test_nets_of_eight_places(self):
        for word in drawn_words(8):
            net = net_by(word)
            choice = [0] * (len(word) // 2)
            for place in range(len(choice)):
                told = turned_choice(net, choice, place)
                self.assertEqual(rounds_by_merging(net, told), 1)
                self.assertEqual([at for at, way in enumerate(told) if way != 0], [place])

    def test_more_rounds_than_one(self):
        seen = set()
        for net in small_nets() + drawn_nets():
            for choice in drawn_choices(len(net) // 4, 2):
                many = rounds_by_merging(net, choice)
                if many > 1:
                    for place in range(len(choice)):
                        with self.assertRaises(NoOne) as caught:
                            turned_choice(net, choice, place)
                        self.assertEqual(caught.exception.many, many)
                    seen.add(many)
        self.assertLessEqual({2, 3, 4}, seen)

    def test_what_is_handed_in_is_not_changed(self):
        net, choice = list(LOOPS), [1]
        turned_choice(net, choice, 0)
        self.assertEqual((net, choice), (LOOPS, [1]))


class Between(unittest.TestCase):
    def gone(self, net, choice, places):
        for place in places:
            choice = turned_choice(net, choice, place)
        return choice

    def test_as_short_as_can_be(self):
        longest = 0
        for net in whole_nets(4, 3):
            ones = choices_of_one_round(net)
            for one in ones[::3] + ones[-1:]:
                needed = turns_needed(net, one)
                for other in ones:
                    places = way_between(net, one, other)
                    self.assertEqual(self.gone(net, one, places), other)
                    self.assertEqual(len(places), needed[tuple(other)])
                    longest = max(longest, len(places))
        self.assertGreater(longest, 3)

    def test_six_places(self):
        for net in [net for net in whole_nets(6, 2) if len(net) == 24]:
            ones = choices_of_one_round(net)
            needed = turns_needed(net, ones[0])
            for other in ones[::20]:
                places = way_between(net, ones[0], other)
                self.assertEqual(self.gone(net, ones[0], places), other)
                self.assertEqual(len(places), needed[tuple(other)])

    def test_from_a_choice_to_itself(self):
        for net in whole_nets(6, 2):
            choice = choices_of_one_round(net)[0]
            self.assertEqual(way_between(net, choice, list(choice)), [])
            self.assertEqual(way_between(net, choice, choice), [])

    def test_seven_and_eight_places_are_too_many_ahead_of_all_else(self):
        for word in ("abcdefgabcdefg", "aabbccddeeffgghh"):
            net = net_by(word)
            one, many = [0] * (len(word) // 2), [2] * (len(word) // 2)
            for first, second in ((one, one), (one, many), (many, one), (many, many)):
                with self.assertRaises(TooMany):
                    way_between(net, first, second)
        net = [end ^ 1 for end in range(28)]
        with self.assertRaises(TooMany):
            way_between(net, [0] * 7, [1] * 7)

    def test_the_first_choice_is_refused_ahead_of_the_second(self):
        net = net_by("aabbcc")
        one, two, three = [0, 0, 0], [2, 0, 0], [2, 2, 0]
        self.assertEqual([rounds_by_merging(net, choice) for choice in (one, two, three)], [1, 2, 3])
        for first, second, many in (
            (two, three, 2), (three, two, 3), (one, three, 3), (one, two, 2), (two, one, 2), (three, one, 3),
            (two, two, 2),
        ):
            with self.assertRaises(NoOne) as caught:
                way_between(net, first, second)
            self.assertEqual(caught.exception.many, many)

    def test_told_lists_are_the_askers_own(self):
        net, one, other = net_by("abab"), [0, 0], [2, 2]
        told = way_between(net, one, other)
        kept = list(told)
        told.clear()
        self.assertEqual(way_between(net, one, other), kept)
        way_between(net, one, one).append(3)
        self.assertEqual(way_between(net, one, one), [])
        self.assertEqual((net, one, other), (net_by("abab"), [0, 0], [2, 2]))


class Walked(unittest.TestCase):
    def test_no_places(self):
        self.assertEqual(walked(LOOPS, [1], []), [[1]])

    def test_small_ones(self):
        self.assertEqual(walked(LOOPS, [1], [0]), [[1], [2]])
        self.assertEqual(walked(LOOPS, [1], [0, 0, 0]), [[1], [2], [1], [2]])
        self.assertEqual(walked(net_by("abab"), [0, 0], [0, 1, 0]), [[0, 0], [1, 0], [1, 2], [2, 2]])

    def test_each_turned_from_the_one_ahead(self):
        for net in whole_nets(6, 2):
            start = choices_of_one_round(net)[-1]
            places = [(3 * step + step // 2) % len(start) for step in range(9)] + [0, 0]
            told = walked(net, start, places)
            self.assertEqual(len(told), len(places) + 1)
            self.assertEqual(told[0], start)
            for at, place in enumerate(places):
                self.assertEqual(told[at + 1], turned_choice(net, told[at], place))

    def test_ways_lead_where_they_ought_to(self):
        for net in whole_nets(4, 2):
            ones = choices_of_one_round(net)
            for other in ones[::4]:
                self.assertEqual(walked(net, ones[0], way_between(net, ones[0], other))[-1], other)

    def test_eight_places_and_a_hundred_turns(self):
        net = net_by("abcdefghabcdefgh")
        told = walked(net, [0] * 8, [step % 8 for step in range(100)])
        self.assertEqual(len(told), 101)
        self.assertEqual({rounds_by_merging(net, choice) for choice in told}, {1})

    def test_more_rounds_than_one(self):
        for places in ([], [0], [0, 0]):
            with self.assertRaises(NoOne) as caught:
                walked(LOOPS, [0], places)
            self.assertEqual(caught.exception.many, 2)

    def test_told_lists_are_the_askers_own(self):
        choice, places = [1], [0, 0]
        told = walked(LOOPS, choice, places)
        told[0][0] = 9
        self.assertEqual(told[1:], [[2], [1]])
        told[2].clear()
        self.assertEqual((choice, places), ([1], [0, 0]))


if __name__ == "__main__":
    unittest.main()
