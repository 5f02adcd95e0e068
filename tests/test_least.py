import unittest
from random import Random

from fourway.least import compared, least_writing
from tests.samples import all_words, drawn_words, renamed, small_letters

# Words that come again when shifted, or backwards.
AGAIN = ("aa", "abab", "aabb", "abcabc", "abcdabcd", "aabbccddeeffgghhiijj", "abcdefghijabcdefghij", "zaazbyyb",
         "abacdcbd", "qqrrss", "abcdefghijjihgfedcba")


def words():
    return drawn_words() + [word for many in range(1, 5) for word in all_words(many)] + list(AGAIN)


def writings(word):
    shifted = [word[by:] + word[:by] for by in range(len(word))]
    return {renamed(one) for one in shifted + [one[::-1] for one in shifted]}


def disguised(word, seed):
    """The word shifted, backwards or not, with other letters."""
    chance = Random(seed)
    by = chance.randrange(len(word))
    told = word[by:] + word[:by]
    if chance.random() < 0.5:
        told = told[::-1]
    names = dict(zip(sorted(set(word)), chance.sample(small_letters(), len(word) // 2)))
    return "".join(names[sign] for sign in told)


def gone_through(one, told):
    """What [30] makes of the first word by what was told."""
    kind, shift, mirrored, letters = told
    word = one[shift:] + one[:shift]
    if mirrored:
        word = word[::-1]
    return "".join(letters[sorted(set(one)).index(sign)] for sign in word)


class Least(unittest.TestCase):
    def test_small_ones(self):
        self.assertEqual(least_writing("zz"), "aa")
        self.assertEqual(least_writing("abba"), "aabb")
        self.assertEqual(least_writing("yxyx"), "abab")
        self.assertEqual(least_writing("abccab"), "aabcbc")
        self.assertEqual(least_writing("abcacb"), "abacbc")

    def test_the_least_of_all_writings(self):
        for word in words():
            self.assertEqual(least_writing(word), min(writings(word)))

    def test_it_is_its_own_least_writing(self):
        for word in words():
            self.assertEqual(least_writing(least_writing(word)), least_writing(word))

    def test_backwards_counts_too(self):
        told = [word for word in all_words(4) if least_writing(word) < min(
            renamed(word[by:] + word[:by]) for by in range(len(word)))]
        self.assertGreater(len(told), 0)


class Compared(unittest.TestCase):
    def same(self, one, other):
        told = compared(one, other)
        self.assertIsInstance(told, tuple)
        self.assertEqual((len(told), told[0]), (4, "same"), (one, other))
        self.assertIn(told[1], range(len(one)))
        self.assertIs(told[2].__class__, bool)
        self.assertEqual(sorted(told[3]), sorted(set(other)))
        self.assertEqual(gone_through(one, told), other)

    def unlike(self, one, other):
        self.assertEqual(compared(one, other), ("unlike", min(writings(one)), min(writings(other))))

    def test_small_ones(self):
        self.same("aa", "zz")
        self.same("abba", "xxyy")
        self.assertEqual(compared("abab", "aabb"), ("unlike", "abab", "aabb"))
        self.assertEqual(compared("aabb", "abab"), ("unlike", "aabb", "abab"))
        self.assertEqual(compared("aa", "zyyz"), ("unlike", "aa", "aabb"))

    def test_each_is_the_same_as_itself_and_as_its_disguises(self):
        for seed, word in enumerate(words()):
            self.same(word, word)
            for step in range(3):
                other = disguised(word, 10 * seed + step)
                self.same(word, other)
                self.same(other, word)

    def test_every_two_small_words(self):
        small = [word for many in range(1, 4) for word in all_words(many)] + all_words(4)[::9]
        kinds = set()
        for one in small:
            for other in small:
                like = min(writings(one)) == min(writings(other))
                kinds.add(like)
                if like:
                    self.same(one, disguised(other, len(one)))
                else:
                    self.unlike(one, other)
        self.assertEqual(kinds, {True, False})

    def test_greater_words_either_way_round(self):
        for one, other in zip(drawn_words(), drawn_words()[1:]):
            if min(writings(one)) != min(writings(other)):
                self.unlike(one, other)
                self.unlike(other, one)

    def test_the_same_backwards_alone(self):
        told = [word for word in all_words(4) if not any(
            renamed(word[by:] + word[:by]) == renamed(word[::-1]) for by in range(len(word)))]
        self.assertGreater(len(told), 0)
        for word in told:
            self.same(word, word[::-1])
            self.assertIs(compared(word, word[::-1])[2], True)
            self.assertIs(compared(word, word)[2], False)


if __name__ == "__main__":
    unittest.main()
