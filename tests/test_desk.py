import unittest
from random import Random

from fourway.changes import Mirror, Shift, Swap, Turn
from fourway.desk import Desk
from fourway.errors import NoCross, NoDeed, NoLetter, NoLine, NoWord, RoundError, TooMany
from fourway.least import least_writing
from fourway.reading import choice_by, net_by
from fourway.texts import net_text
from tests.samples import drawn_choices, drawn_word, drawn_words, renamed
from tests.test_counts import counts_by_walking
from tests.walks import rounds_by_merging


def desk_with(word):
    desk = Desk()
    desk.told("word " + word)
    return desk


def crossing_by_turns(word, letter):
    """The letters that stand just once between the two places of a letter."""
    between = word[word.index(letter) + 1:word.rindex(letter)]
    return "".join(sorted(sign for sign in set(between) if between.count(sign) == 1)) or "-"


class Answers(unittest.TestCase):
    def test_at_first(self):
        desk = Desk()
        self.assertEqual(desk.told("show"), "aa")
        self.assertEqual(desk.told("least"), "aa")
        self.assertEqual(desk.told("net"), "a0-a3 a1-a2")
        self.assertEqual(desk.told("cross a"), "-")
        self.assertEqual([desk.told("rounds " + ways) for ways in "012"], ["1", "1", "2"])
        self.assertEqual(desk.told("counts"), "2 1")
        self.assertEqual(desk.told("same zz"), "yes")

    def test_word(self):
        desk = Desk()
        for word in drawn_words():
            self.assertEqual(desk.told("word " + word), word)
            self.assertEqual(desk.told("show"), word)

    def test_changes(self):
        desk = desk_with("abcabc")
        self.assertEqual(desk.told("turn a"), "acbabc")
        self.assertEqual(desk.told("swap a b"), "abacbc")
        self.assertEqual(desk.told("mirror"), "cbcaba")
        self.assertEqual(desk.told("shift 2"), "cabacb")
        self.assertEqual(desk.told("shift 0"), "cabacb")
        self.assertEqual(desk.told("shift 6"), "cabacb")
        self.assertEqual(desk.told("shift 999"), "acbcab")
        self.assertEqual(desk.told("show"), "acbcab")

    def test_changes_of_words_of_all_sizes(self):
        for word in drawn_words():
            for letter in sorted(set(word)):
                self.assertEqual(desk_with(word).told("turn " + letter), Turn(letter).done(word))
                for other in crossing_by_turns(word, letter).strip("-"):
                    told = desk_with(word).told(f"swap {letter} {other}")
                    self.assertEqual(told, Swap(letter, other).done(word))
            self.assertEqual(desk_with(word).told("mirror"), Mirror().done(word))
            for by in (1, 9, 10, 19, 20, 100, 101, 999):
                self.assertEqual(desk_with(word).told(f"shift {by}"), Shift(by).done(word))

    def test_cross(self):
        self.assertEqual(desk_with("zbzmbm").told("cross b"), "mz")
        self.assertEqual(desk_with("zbzmbm").told("cross z"), "b")
        self.assertEqual(desk_with("aabcbc").told("cross a"), "-")
        for word in drawn_words():
            for letter in set(word):
                self.assertEqual(desk_with(word).told("cross " + letter), crossing_by_turns(word, letter))

    def test_rounds(self):
        self.assertEqual(desk_with("zbzmbm").told("rounds 020"), "2")
        for word in drawn_words(8, 6):
            for choice in drawn_choices(len(word) // 2, 4):
                told = desk_with(word).told("rounds " + "".join(str(way) for way in choice))
                self.assertEqual(told, str(rounds_by_merging(net_by(word), choice_by(word, choice))))
        self.assertEqual(desk_with("aabbccddeeffgghhiijj").told("rounds 2222222222"), "11")

    def test_counts(self):
        self.assertEqual(desk_with("abab").told("counts"), "6 3")
        for word in drawn_words(6, 2):
            wanted = " ".join(str(count) for count in counts_by_walking(net_by(word))[1:])
            self.assertEqual(desk_with(word).told("counts"), wanted)

    def test_net_and_least(self):
        for word in drawn_words():
            self.assertEqual(desk_with(word).told("least"), least_writing(word))
            if len(word) <= 16:
                self.assertEqual(desk_with(word).told("net"), net_text(net_by(word)))
        self.assertEqual(desk_with("xyyx").told("least"), "aabb")
        self.assertEqual(desk_with("yxyx").told("net"), "a0-b3 a1-b0 a2-b1 a3-b2")

    def test_same(self):
        desk = desk_with("abba")
        self.assertEqual([desk.told("same " + word) for word in ("qqrr", "abab", "aa", "zaaz")], ["yes", "no", "no", "yes"])
        for word in drawn_words(10, 4):
            desk = desk_with(word)
            self.assertEqual(desk.told("same " + renamed(word[3:] + word[:3])[::-1]), "yes")
            self.assertEqual(desk.told("same " + drawn_word(3, 2)), "yes" if least_writing(word) == least_writing(
                drawn_word(3, 2)) else "no")

    def test_only_what_changes_changes_anything(self):
        desk = desk_with("abcabc")
        for line in ("show", "least", "net", "cross a", "rounds 012", "counts", "same abab", "same aabbcc"):
            desk.told(line)
            self.assertEqual(desk.told("show"), "abcabc")
        self.assertEqual(desk.told("undo"), "aa")
        with self.assertRaises(NoDeed):
            desk.told("undo")


class Undo(unittest.TestCase):
    def test_as_often_as_there_were_changes(self):
        desk = Desk()
        kept = [desk.told("show")]
        for line in ("word abcabc", "turn b", "mirror", "shift 5", "swap a b", "word zz", "word pqqp"):
            kept.append(desk.told(line))
        while len(kept) > 1:
            kept.pop()
            self.assertEqual(desk.told("undo"), kept[-1])
            self.assertEqual(desk.told("show"), kept[-1])
        for step in range(3):
            with self.assertRaises(NoDeed):
                desk.told("undo")
            self.assertEqual(desk.told("show"), "aa")

    def test_a_new_desk_has_nothing_to_undo(self):
        with self.assertRaises(NoDeed):
            Desk().told("undo")

    def test_changes_that_leave_the_word_as_it_was(self):
        desk = Desk()
        for line in ("turn a", "mirror", "shift 0", "shift 1", "word aa"):
            self.assertEqual(desk.told(line), "aa")
        for step in range(5):
            self.assertEqual(desk.told("undo"), "aa")
        with self.assertRaises(NoDeed):
            desk.told("undo")

    def test_a_change_behind_an_undo(self):
        desk = Desk()
        desk.told("word abab")
        desk.told("word cc")
        self.assertEqual(desk.told("undo"), "abab")
        desk.told("word dd")
        self.assertEqual(desk.told("undo"), "abab")
        self.assertEqual(desk.told("undo"), "aa")

    def test_many_changes(self):
        desk = desk_with("aabcbc")
        kept = []
        for step in range(500):
            kept.append(desk.told("show"))
            desk.told(f"shift {step}")
        for word in reversed(kept):
            self.assertEqual(desk.told("undo"), word)


class Refused(unittest.TestCase):
    def refused(self, desk, line, kind, value=None):
        before = desk.told("show")
        with self.assertRaises(kind, msg=line) as caught:
            desk.told(line)
        told = caught.exception
        if kind is NoWord:
            self.assertEqual(told.at, value)
        if kind is NoLetter:
            self.assertEqual(told.letter, value)
        self.assertEqual(desk.told("show"), before)

    def nothing_was_kept(self, desk):
        """That nothing but the first word line can be undone."""
        self.assertEqual(desk.told("undo"), "aa")
        with self.assertRaises(NoDeed):
            desk.told("undo")

    def test_lines_that_are_none(self):
        desk = desk_with("abcabc")
        for line in (
            "", " ", "  ", "Show", "SHOW", "shows", "sho", "show ", " show", "show show", "show a", "hello", "0", "-",
            "word", "word ", "word aa bb", "word  aa", " word aa", "word aa ", "Word aa", "wordaa",
            "turn", "turn ", "turn A", "turn 1", "turn ab", "turn -", "turn a b", "turn  a", "turn a ", "turna",
            "swap", "swap a", "swap a ", "swap a b c", "swap ab", "swap A b", "swap a B", "swap a bc", "swap  a b", "swap a  b",
            "mirror a", "mirror ", "mirrors", "mirror 1",
            "shift", "shift ", "shift a", "shift -1", "shift +1", "shift 00", "shift 01", "shift 007", "shift 1000", "shift 1 2",
            "shift 1a", "shift 1.", "shift 1_0", "shift  1", "shift 1 ", "shift 12345678901234567890", "shift 0x1", "shift a1",
            "undo 1", "undo ", "undo undo", "redo", "least a", "least ", "net a", "net ", "counts 1", "counts ", "count",
            "cross", "cross ", "cross A", "cross ab", "cross a b", "cross 1", "cross -",
            "rounds", "rounds ", "rounds 01", "rounds 0120", "rounds 013", "rounds 01a", "rounds 0 1 2", "rounds 0-1",
            "rounds 012 ", "rounds -12", "rounds 333", "same", "same ", "same aa bb", "same  aa", "same abab ",
            "text", "letter a", "a" * 1000, " " * 1000, "word " * 200, "shift " + "9" * 900,
        ):
            self.refused(desk, line, NoLine)
        self.nothing_was_kept(desk)

    def test_as_many_ways_as_the_word_has_letters(self):
        for word in drawn_words(10, 2):
            many = len(word) // 2
            desk = desk_with(word)
            for wrong in (many - 1, many + 1):
                self.refused(desk, "rounds " + "0" * wrong, NoLine)
            self.assertEqual(desk.told("rounds " + "0" * many), "1")

    def test_texts_that_are_no_ring_words(self):
        desk = desk_with("abcabc")
        for text, at in (("a", 0), ("A", 0), ("aab", 2), ("aaa", 2), ("aab-b", 3), ("~", 0), ("aabbccddeeffgghhiijjkk", 20)):
            self.refused(desk, "word " + text, NoWord, at)
            self.refused(desk, "same " + text, NoWord, at)
        self.nothing_was_kept(desk)

    def test_texts_that_are_lines_by_themselves(self):
        desk = desk_with("abcabc")
        for text, at in (("undo", 0), ("show", 0), ("least", 0), ("net", 0), ("counts", 0), ("mirror", 5), ("same", 0)):
            self.refused(desk, "word " + text, NoWord, at)
            self.refused(desk, "same " + text, NoWord, at)
        self.nothing_was_kept(desk)

    def test_letters_that_the_word_lacks(self):
        desk = desk_with("abcabc")
        for letter in "dz":
            self.refused(desk, "turn " + letter, NoLetter, letter)
            self.refused(desk, "cross " + letter, NoLetter, letter)
            self.refused(desk, f"swap {letter} a", NoLetter, letter)
            self.refused(desk, f"swap a {letter}", NoLetter, letter)
            self.refused(desk, f"swap {letter} {letter}", NoLetter, letter)
        self.refused(desk, "swap x y", NoLetter, "x")
        self.refused(desk, "swap y x", NoLetter, "y")
        self.nothing_was_kept(desk)

    def test_letters_that_do_not_cross(self):
        desk = desk_with("aabcbc")
        for line in ("swap a b", "swap b a", "swap a a", "swap b b", "swap c a"):
            self.refused(desk, line, NoCross)
        self.nothing_was_kept(desk)

    def test_words_with_too_many_letters(self):
        for many in range(1, 11):
            desk = desk_with(drawn_word(many, many))
            if many > 8:
                self.refused(desk, "net", TooMany)
            else:
                desk.told("net")
            if many > 6:
                self.refused(desk, "counts", TooMany)
            else:
                desk.told("counts")
            for line in ("least", "show", "same abab", "mirror", "shift 3"):
                desk.told(line)

    def test_a_wrong_line_goes_ahead_of_what_its_function_refuses(self):
        desk = desk_with("aabbccddeeffgghhiijj")
        for line in ("counts 1", "net x", "swap z zz", "swap zz z", "turn zz", "word a b", "same A B"):
            self.refused(desk, line, NoLine)
        self.nothing_was_kept(desk)

    def test_what_is_refused_between_changes_does_not_count(self):
        desk = Desk()
        desk.told("word abab")
        for line in ("word abc", "turn z", "swap a a", "shift 01", "mirror x", "rounds 0", "hello"):
            with self.assertRaises(RoundError):
                desk.told(line)
        desk.told("turn a")
        for line in ("word abc", "turn z", "swap a a"):
            with self.assertRaises(RoundError):
                desk.told(line)
        self.assertEqual([desk.told("undo"), desk.told("undo")], ["abab", "aa"])


class Two(unittest.TestCase):
    def test_side_by_side(self):
        one, other = Desk(), Desk()
        one.told("word abab")
        self.assertEqual(other.told("show"), "aa")
        other.told("word cddc")
        other.told("mirror")
        self.assertEqual(one.told("show"), "abab")
        self.assertEqual(one.told("undo"), "aa")
        self.assertEqual(other.told("undo"), "cddc")
        self.assertEqual(other.told("undo"), "aa")
        for desk in (one, other):
            with self.assertRaises(NoDeed):
                desk.told("undo")

    def test_the_same_lines_the_same_answers(self):
        chance = Random(9)
        lines = ["word abcdabdc"] + [chance.choice(
            ("turn a", "turn b", "swap c d", "swap a c", "mirror", "shift 3", "undo", "show", "counts", "cross a", "what")
        ) for step in range(200)]
        told = []
        for desk in (Desk(), Desk()):
            answers = []
            for line in lines:
                try:
                    answers.append(desk.told(line))
                except RoundError as refusal:
                    answers.append(refusal.__class__)
            told.append(answers)
        self.assertEqual(told[0], told[1])


if __name__ == "__main__":
    unittest.main()
