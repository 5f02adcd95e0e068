import unittest
from itertools import product

from fourway.errors import NoOne, TooMany
from fourway.nets import hangs_together, net_of
from fourway.reading import choice_by, net_by, place_order, word_by
from fourway.rounds import many_rounds, round_of
from fourway.texts import net_read, net_text
from fourway.words import word_told
from tests.samples import (
    all_words, drawn_choices, drawn_nets, drawn_words, nets_with_choices, renamed, small_nets)
from tests.walks import rounds_by_merging


class WordBy(unittest.TestCase):
    def test_small_ones(self):
        self.assertEqual(word_by([1, 0, 3, 2], [1]), "aa")
        self.assertEqual(word_by([4, 5, 6, 7, 0, 1, 2, 3], [0, 1]), "abab")
        self.assertEqual(word_by([1, 0, 4, 7, 2, 6, 5, 3], [2, 1]), "abba")

    def test_the_letters_of_every_second_end_of_the_round_of_end_nought(self):
        told = 0
        for net, choice in nets_with_choices():
            if rounds_by_merging(net, choice) == 1:
                ends = round_of(net, choice, 0)
                word = word_by(net, choice)
                self.assertEqual(word, "".join("abcdefgh"[end // 4] for end in ends[::2]))
                self.assertEqual(word_told(word), word)
                self.assertEqual(set(word), set("abcdefgh"[:len(net) // 4]))
                self.assertEqual(word[0], "a")
                told += 1
        self.assertGreater(told, 100)

    def test_more_rounds_than_one(self):
        seen = set()
        for net, choice in nets_with_choices():
            many = rounds_by_merging(net, choice)
            if many > 1:
                with self.assertRaises(NoOne) as caught:
                    word_by(net, choice)
                self.assertEqual(caught.exception.many, many)
                seen.add(many)
        self.assertLessEqual({2, 3, 4, 5}, seen)

    def test_a_net_has_such_choices_just_where_it_hangs_together(self):
        told = set()
        for net in small_nets() + [net for net in drawn_nets() if len(net) <= 16]:
            found = any(many_rounds(net, list(choice)) == 1 for choice in product(range(3), repeat=len(net) // 4))
            self.assertIs(found, hangs_together(net))
            told.add(found)
        self.assertEqual(told, {True, False})

    def test_what_is_handed_in_is_not_changed(self):
        net, choice = [1, 0, 3, 2], [1]
        word_by(net, choice)
        self.assertEqual((net, choice), ([1, 0, 3, 2], [1]))


class NetBy(unittest.TestCase):
    def test_small_ones(self):
        self.assertEqual(net_text(net_by("aa")), "a0-a3 a1-a2")
        self.assertEqual(net_by("xyxy"), net_read("a1-b0 b1-a2 a3-b2 b3-a0"))
        self.assertEqual(net_by("zzaa"), net_read("a1-a2 a3-b0 b1-b2 b3-a0"))
        self.assertEqual(net_by("cabbac"), net_read("a1-b0 b1-c0 c1-c2 c3-b2 b3-a2 a3-a0"))

    def test_sign_by_sign(self):
        for word in drawn_words(8):
            order = []
            stood = []
            for sign in word:
                if sign not in order:
                    order.append(sign)
            ends = []
            for sign in word:
                seat = 2 if sign in stood else 0
                stood.append(sign)
                ends.append(4 * order.index(sign) + seat)
            net = net_by(word)
            for at, end in enumerate(ends):
                behind = ends[(at + 1) % len(ends)]
                self.assertEqual((net[end + 1], net[behind]), (behind, end + 1))
            self.assertEqual(net_of(net), net)

    def test_ways_nought_alone_leave_one_round_and_the_word(self):
        for word in drawn_words(8) + all_words(3) + all_words(4):
            many = len(word) // 2
            self.assertEqual(word_by(net_by(word), [0] * many), renamed(word))

    def test_nine_and_ten_letters_are_too_many(self):
        for word in drawn_words():
            if len(word) > 16:
                with self.assertRaises(TooMany):
                    net_by(word)

    def test_eight_are_not(self):
        self.assertEqual(len(net_by("stuvwxyzstuvwxyz")), 32)

    def test_told_lists_are_the_askers_own(self):
        net_by("abab").clear()
        self.assertEqual(net_by("abab"), [7, 4, 5, 6, 1, 2, 3, 0])


class Order(unittest.TestCase):
    def test_as_they_first_stand(self):
        self.assertEqual(place_order("aa"), "a")
        self.assertEqual(place_order("zbzmbm"), "zbm")
        self.assertEqual(place_order("qrstuvwxyzzyxwvutsrq"), "qrstuvwxyz")
        for word in drawn_words():
            self.assertEqual(place_order(word), "".join(dict.fromkeys(word)))


class ChoiceBy(unittest.TestCase):
    def test_small_ones(self):
        self.assertEqual(choice_by("aa", [2]), [2])
        self.assertEqual(choice_by("zbzmbm", [0, 1, 2]), [2, 0, 1])
        self.assertEqual(choice_by("zabzab", [1, 2, 0]), [0, 1, 2])

    def test_words_of_up_to_ten_letters(self):
        for word in drawn_words():
            letters = sorted(set(word))
            for choice in drawn_choices(len(letters)):
                ways = dict(zip(letters, choice))
                self.assertEqual(choice_by(word, choice), [ways[letter] for letter in dict.fromkeys(word)])

    def test_way_one_joins_what_comes_in(self):
        for word in ("ab" * 2, "ba" * 2, "cabcab", "bbcaac"):
            for number, letter in enumerate(sorted(set(word))):
                place = 4 * list(dict.fromkeys(word)).index(letter)
                for way, mate in ((0, 1), (1, 2), (2, 3)):
                    choice = [0] * (len(word) // 2)
                    choice[number] = way
                    self.assertEqual(round_of(net_by(word), choice_by(word, choice), place)[1], place + mate)

    def test_told_lists_are_the_askers_own(self):
        choice = [0, 1]
        told = choice_by("abab", choice)
        told[0] = 9
        self.assertEqual((choice, choice_by("abab", choice)), ([0, 1], [0, 1]))


if __name__ == "__main__":
    unittest.main()
