import unittest
from itertools import product
from random import Random

from fourway.errors import NoLetter, NoWord
from fourway.words import letters_of, places_of, word_told
from tests.samples import all_words, drawn_words, small_letters


def fault(text):
    try:
        word_told(text)
    except NoWord as refusal:
        return refusal.at
    return None


def fault_by_the_words(text):
    """Where [7] puts the fault, or None: every place that it speaks of, and the least of them."""
    if text == "":
        return 0
    first = [place for place, sign in enumerate(text) if not "a" <= sign <= "z"]
    first += [place for place, sign in enumerate(text) if [one for one in text[:place] if one == sign][1:]]
    first += [place for place in range(len(text)) if place == 20]
    once = [place for place, sign in enumerate(text) if sum(one == sign for one in text) == 1]
    return min(first) if first else min(once, default=None)


class Told(unittest.TestCase):
    def test_words_of_one_letter_up_to_ten(self):
        words = drawn_words()
        self.assertEqual({len(word) for word in words}, set(range(2, 21, 2)))
        for word in words + all_words(3):
            self.assertEqual(word_told(word), word)

    def test_every_small_letter(self):
        for letter in small_letters():
            self.assertEqual(word_told(letter + letter), letter + letter)

    def test_ten_letters_side_by_side_and_within_one_another(self):
        for word in ("zzyyxxwwvvuuttssrrqq", "qrstuvwxyzzyxwvutsrq", "qrstuvwxyzqrstuvwxyz"):
            self.assertEqual(word_told(word), word)


class Refused(unittest.TestCase):
    def test_the_text_without_signs(self):
        self.assertEqual(fault(""), 0)

    def test_a_sign_that_is_no_small_letter(self):
        for sign in " AZ09-_`{~!@[":
            self.assertEqual(fault(sign), 0, sign)
            self.assertEqual(fault("ab" + sign + "ab"), 2, sign)
            self.assertEqual(fault("abab" + sign), 4, sign)
            self.assertEqual(fault("ab" + sign + sign + "ab"), 2, sign)

    def test_a_letter_a_third_time(self):
        self.assertEqual(fault("aaa"), 2)
        self.assertEqual(fault("aaaa"), 2)
        self.assertEqual(fault("abcabca"), 6)
        self.assertEqual(fault("abaab"), 3)
        self.assertEqual(fault("aabbab"), 4)

    def test_any_sign_at_place_twenty(self):
        ten = "aabbccddeeffgghhiijj"
        self.assertIsNone(fault(ten))
        for more in ("k", "kk", "a", "A", " ", "k" * 900):
            self.assertEqual(fault(ten + more), 20, more)
        self.assertEqual(fault(small_letters()), 20)
        self.assertEqual(fault(2 * small_letters()), 20)

    def test_a_letter_that_stands_once(self):
        self.assertEqual(fault("a"), 0)
        self.assertEqual(fault("aab"), 2)
        self.assertEqual(fault("abb"), 0)
        self.assertEqual(fault("abcacd"), 1)
        self.assertEqual(fault("aabbcdd"), 4)
        self.assertEqual(fault("abcdefghijklmnopqrst"), 0)

    def test_a_letter_once_comes_behind_all_else(self):
        self.assertEqual(fault("abbA"), 3)
        self.assertEqual(fault("abbcbc"), 4)
        self.assertEqual(fault("zaabbccddeeffgghhiijj"), 20)

    def test_the_least_place_of_several(self):
        self.assertEqual(fault("aaab-"), 2)
        self.assertEqual(fault("ab-aaa"), 2)
        self.assertEqual(fault("aabbccddeeffgghhii-jk"), 18)
        self.assertEqual(fault("aabbccddeeffgghhiijaj"), 19)

    def test_every_short_text_of_few_signs(self):
        for many in range(7):
            for signs in product("abZ", repeat=many):
                text = "".join(signs)
                self.assertEqual(fault(text), fault_by_the_words(text), text)

    def test_texts_near_to_ring_words(self):
        chance = Random(7)
        for word in drawn_words():
            for step in range(12):
                at = chance.randrange(len(word) + 1)
                sign = chance.choice(word + "A ~0" + small_letters())
                for text in (word[:at] + sign + word[at:], word[:at] + sign + word[at + 1:], word[:at] + word[at + 1:]):
                    self.assertEqual(fault(text), fault_by_the_words(text), text)

    def test_texts_of_a_thousand_signs(self):
        self.assertEqual(fault("a" * 1000), 2)
        self.assertEqual(fault("~" * 1000), 0)
        self.assertEqual(fault("aabbccddee" * 100), 10)


class Letters(unittest.TestCase):
    def test_each_once_and_rising(self):
        self.assertEqual(letters_of("aa"), "a")
        self.assertEqual(letters_of("zbzmbm"), "bmz")
        for word in drawn_words():
            letters = letters_of(word)
            self.assertEqual(letters, "".join(letter for letter in small_letters() if letter in word))

    def test_their_places(self):
        self.assertEqual(places_of("zbzmbm", "z"), (0, 2))
        self.assertEqual(places_of("zbzmbm", "b"), (1, 4))
        self.assertEqual(places_of("aa", "a"), (0, 1))
        for word in drawn_words():
            for letter in set(word):
                places = places_of(word, letter)
                self.assertIsInstance(places, tuple)
                self.assertEqual(places, tuple(at for at, sign in enumerate(word) if sign == letter))

    def test_what_is_no_letter_of_the_word(self):
        word = "abcabc"
        for letter in ("", "d", "z", "A", "ab", "abc", "bc", "aa", "abcabc", " ", "-", "a" * 1000):
            with self.assertRaises(NoLetter) as caught:
                places_of(word, letter)
            self.assertEqual(caught.exception.letter, letter)

    def test_letters_that_other_words_have(self):
        for word in drawn_words():
            for letter in set(small_letters()) - set(word):
                with self.assertRaises(NoLetter) as caught:
                    places_of(word, letter)
                self.assertEqual(caught.exception.letter, letter)


if __name__ == "__main__":
    unittest.main()
