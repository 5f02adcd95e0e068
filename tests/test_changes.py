import unittest
from copy import deepcopy
from itertools import combinations, permutations

from fourway.changes import Change, Mirror, Shift, Swap, Turn, done_all
from fourway.errors import NoCross, NoLetter
from fourway.tables import crossings
from fourway.words import letters_of, word_told
from tests.rows import all_webs, drawn_web
from tests.samples import all_words, drawn_words, small_letters

FAR = 10 ** 60 - 1


def words():
    return drawn_words() + [word for many in range(1, 5) for word in all_words(many)]


def crossing_pairs(word):
    web = crossings(word)
    letters = letters_of(word)
    return [(letters[i], letters[j]) for i, j in permutations(range(len(letters)), 2) if web[i][j]]


def all_changes(word):
    turns = [Turn(letter) for letter in letters_of(word)]
    swaps = [Swap(one, other) for one, other in crossing_pairs(word)]
    return turns + swaps + [Mirror()] + [Shift(by) for by in (0, 1, -1, 7, -FAR, FAR)]


def turned_by_places(word, letter):
    """What stands at each place between the letter's two, taken from the place across."""
    one, other = [at for at, sign in enumerate(word) if sign == letter]
    return "".join(word[one + other - at] if one < at < other else word[at] for at in range(len(word)))


def swapped_by_parts(word, one, other):
    """The word cut at the four places of both letters, and the second and fourth piece exchanged."""
    pieces = [""]
    for sign in word:
        if sign in (one, other):
            pieces += [sign, ""]
        else:
            pieces[-1] += sign
    pieces[2], pieces[6] = pieces[6], pieces[2]
    return "".join(pieces)


class Values(unittest.TestCase):
    def test_what_they_are_made_of(self):
        swap = Swap("a", "b")
        self.assertEqual((Turn("x").letter, swap.one, swap.other, Shift(-5).by), ("x", "a", "b", -5))

    def test_straight_beneath_the_base(self):
        for kind in (Turn, Swap, Mirror, Shift):
            self.assertEqual(kind.__bases__, (Change,))

    def test_back(self):
        turn, swap, mirror, shift = Turn("x").back(), Swap("a", "b").back(), Mirror().back(), Shift(FAR).back()
        self.assertEqual([one.__class__ for one in (turn, swap, mirror, shift)], [Turn, Swap, Mirror, Shift])
        self.assertEqual((turn.letter, swap.one, swap.other, shift.by), ("x", "a", "b", -FAR))
        self.assertEqual(Shift(0).back().by, 0)
        self.assertEqual(Shift(-3).back().by, 3)

    def test_two_side_by_side(self):
        one, other = Turn("a"), Turn("b")
        self.assertEqual((one.letter, other.letter), ("a", "b"))


class Done(unittest.TestCase):
    def test_turn(self):
        self.assertEqual(Turn("a").done("aa"), "aa")
        self.assertEqual(Turn("a").done("abcabc"), "acbabc")
        self.assertEqual(Turn("b").done("abcabc"), "abacbc")
        self.assertEqual(Turn("c").done("xcyzxyzc"), "xczyxzyc")
        for word in words():
            for letter in letters_of(word):
                self.assertEqual(Turn(letter).done(word), turned_by_places(word, letter))

    def test_swap(self):
        self.assertEqual(Swap("a", "b").done("abab"), "abab")
        self.assertEqual(Swap("a", "b").done("acbdacbd"), "acbdacbd")
        self.assertEqual(Swap("a", "b").done("acdbacdb"), "acdbacdb")
        self.assertEqual(Swap("a", "b").done("cadebcafdbef"), "cafdbcadebef")
        self.assertEqual(Swap("b", "a").done("cadebcafdbef"), "cafdbcadebef")
        self.assertEqual(Swap("x", "y").done("xzyxyz"), "xyxzyz")
        for word in words():
            for one, other in crossing_pairs(word):
                self.assertEqual(Swap(one, other).done(word), swapped_by_parts(word, one, other))

    def test_mirror(self):
        self.assertEqual(Mirror().done("aabcbc"), "cbcbaa")
        for word in words():
            self.assertEqual(Mirror().done(word), "".join(reversed(word)))

    def test_shift(self):
        self.assertEqual(Shift(1).done("abcabc"), "bcabca")
        self.assertEqual(Shift(0).done("aabcbc"), "aabcbc")
        self.assertEqual(Shift(2).done("aabcbc"), "bcbcaa")
        self.assertEqual(Shift(-1).done("aabcbc"), "caabcb")
        self.assertEqual(Shift(6).done("aabcbc"), "aabcbc")
        self.assertEqual(Shift(-6).done("aabcbc"), "aabcbc")

    def test_shifts_of_either_sign_and_many_figures(self):
        for word in drawn_words(10, 4):
            for by in list(range(-45, 46)) + [FAR, -FAR, FAR - 1, 1 - FAR, 10 ** 59 + 3]:
                many = by % len(word)
                doubled = word + word
                self.assertEqual(Shift(by).done(word), doubled[many:many + len(word)])

    def test_each_makes_a_ring_word_of_the_same_letters(self):
        for word in words():
            for change in all_changes(word):
                told = change.done(word)
                self.assertEqual(word_told(told), told)
                self.assertEqual(letters_of(told), letters_of(word))

    def test_done_and_done_back_is_the_word_again(self):
        for word in words():
            for change in all_changes(word):
                self.assertEqual(change.back().done(change.done(word)), word)


class Web(unittest.TestCase):
    def test_they_agree_with_the_word(self):
        for word in words():
            letters = letters_of(word)
            for change in all_changes(word):
                self.assertEqual(change.done_web(letters, crossings(word)), crossings(change.done(word)))

    def test_turn_of_any_web(self):
        for web in self.webs():
            letters = small_letters()[-len(web):] if web else ""
            for v, letter in enumerate(letters):
                wanted = deepcopy(web)
                for i, j in permutations(range(len(web)), 2):
                    if v not in (i, j) and web[i][v] and web[j][v]:
                        wanted[i][j] = 1 - web[i][j]
                self.assertEqual(Turn(letter).done_web(letters, web), wanted)

    def test_swap_of_any_web(self):
        for web in self.webs():
            letters = "bdfhjlnprt"[:len(web)]
            for u, v in permutations(range(len(web)), 2):
                if web[u][v]:
                    self.assertEqual(Swap(letters[u], letters[v]).done_web(letters, web), self.swapped(web, u, v))

    def test_mirror_and_shift_change_nothing(self):
        for web in self.webs():
            letters = small_letters()[:len(web)]
            for change in (Mirror(), Shift(3), Shift(-FAR)):
                self.assertEqual(change.done_web(letters, web), web)

    def test_what_is_handed_in_stays_and_what_is_told_is_new(self):
        web = [[0, 1, 1], [1, 0, 1], [1, 1, 0]]
        for change in (Turn("a"), Swap("a", "b"), Mirror(), Shift(1)):
            told = change.done_web("abc", web)
            for row in told:
                row.clear()
            told.clear()
            self.assertEqual(web, [[0, 1, 1], [1, 0, 1], [1, 1, 0]])

    def webs(self):
        return [web for size in range(5) for web in all_webs(size)] + [drawn_web(size, size) for size in range(5, 11)]

    def swapped(self, web, u, v):
        """[21] word for word."""
        wanted = deepcopy(web)
        others = [i for i in range(len(web)) if i not in (u, v)]
        for i, j in combinations(others, 2):
            one = {w for w in (u, v) if web[i][w]}
            other = {w for w in (u, v) if web[j][w]}
            if one and other and one != other:
                wanted[i][j] = wanted[j][i] = 1 - web[i][j]
        for i in others:
            wanted[u][i] = wanted[i][u] = web[v][i]
            wanted[v][i] = wanted[i][v] = web[u][i]
        return wanted


class Refused(unittest.TestCase):
    def no_letter(self, change, word, letter):
        letters = letters_of(word)
        for deed in (lambda: change.done(word), lambda: change.done_web(letters, crossings(word))):
            with self.assertRaises(NoLetter) as caught:
                deed()
            self.assertEqual(caught.exception.letter, letter)

    def no_cross(self, change, word):
        letters = letters_of(word)
        for deed in (lambda: change.done(word), lambda: change.done_web(letters, crossings(word))):
            with self.assertRaises(NoCross):
                deed()

    def test_letters_that_the_word_lacks(self):
        for letter in ("", "d", "A", "ab", "abcabc", "aa", " ", "z" * 1000):
            self.no_letter(Turn(letter), "abcabc", letter)
            self.no_letter(Swap(letter, "a"), "abcabc", letter)
            self.no_letter(Swap("a", letter), "abcabc", letter)
            self.no_letter(Swap(letter, letter), "abcabc", letter)

    def test_the_first_of_two(self):
        self.no_letter(Swap("x", "y"), "abcabc", "x")
        self.no_letter(Swap("y", "x"), "abcabc", "y")
        self.no_letter(Swap("", "y"), "abcabc", "")

    def test_two_that_do_not_cross(self):
        for word in words():
            crossing = crossing_pairs(word)
            for one in letters_of(word):
                for other in letters_of(word):
                    if (one, other) not in crossing:
                        self.no_cross(Swap(one, other), word)

    def test_one_letter_twice(self):
        self.no_cross(Swap("a", "a"), "abab")
        self.no_cross(Swap("a", "a"), "aa")

    def test_the_web_alone_tells_what_crosses(self):
        # No ring word has the wheel: the letters are asked for by their numbers alone.
        wheel = [[0] + [1] * 5] + [[1] + [int((i - j) % 5 in (1, 4)) for j in range(5)] for i in range(5)]
        with self.assertRaises(NoCross):
            Swap("b", "d").done_web("abcdef", wheel)
        with self.assertRaises(NoLetter):
            Turn("g").done_web("abcdef", wheel)
        self.assertEqual(len(Swap("b", "c").done_web("abcdef", wheel)), 6)
        with self.assertRaises(NoCross):
            Swap("p", "q").done_web("pq", [[0, 0], [0, 0]])
        self.assertEqual(Swap("p", "q").done_web("pq", [[0, 1], [1, 0]]), [[0, 1], [1, 0]])

    def test_the_web_without_points(self):
        with self.assertRaises(NoLetter):
            Turn("a").done_web("", [])
        self.assertEqual(Mirror().done_web("", []), [])


class All(unittest.TestCase):
    def test_one_behind_the_other(self):
        changes = [Turn("a"), Shift(1), Mirror(), Swap("a", "b")]
        self.assertEqual(done_all("abcabc", changes[:1]), "acbabc")
        self.assertEqual(done_all("abcabc", changes[:2]), "cbabca")
        self.assertEqual(done_all("abcabc", changes[:3]), "acbabc")
        self.assertEqual(done_all("abcabc", changes), "abacbc")

    def test_of_no_changes(self):
        self.assertEqual(done_all("abab", []), "abab")

    def test_the_same_change_again(self):
        shift = Shift(1)
        self.assertEqual(done_all("abcabc", [shift] * 4), "bcabca")

    def test_what_is_refused_on_the_way(self):
        with self.assertRaises(NoLetter):
            done_all("abab", [Mirror(), Turn("c"), Swap("a", "a")])
        with self.assertRaises(NoCross):
            done_all("abcabc", [Turn("a"), Swap("b", "c")])

    def test_the_list_of_changes_stays(self):
        changes = [Mirror(), Shift(1)]
        kept = list(changes)
        done_all("abab", changes)
        self.assertEqual(changes, kept)


if __name__ == "__main__":
    unittest.main()
