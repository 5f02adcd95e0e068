import re
import unittest
from random import Random

from fourway.errors import NoText
from fourway.texts import net_read, net_text
from tests.samples import drawn_nets, small_nets

TWO = "a0-a1 a2-b3 a3-b0 b1-b2"


def fault(text):
    try:
        net_read(text)
    except NoText as refusal:
        return refusal.at
    return None


def fault_by_the_words(text):
    """Where [6] puts the fault, or None: read off the document with a pattern."""
    words = text.split(" ")
    stood = []
    for at, word in enumerate(words):
        if not re.fullmatch("[a-h][0-3]-[a-h][0-3]", word):
            return at
        ends = word.split("-")
        if ends[0] == ends[1] or set(ends) & set(stood):
            return at
        stood.extend(ends)
    for places in range(1, 9):
        if set(stood) == {letter + seat for letter in "abcdefgh"[:places] for seat in "0123"}:
            return None
    return len(words)


class Written(unittest.TestCase):
    def test_the_documents_own_example(self):
        self.assertEqual(net_text([1, 0, 3, 2]), "a0-a1 a2-a3")
        self.assertEqual(net_read("a0-a1 a2-a3"), [1, 0, 3, 2])

    def test_c2_is_end_ten(self):
        net = [10, 2, 1, 4, 3, 6, 5, 8, 7, 11, 0, 9]
        self.assertEqual(net_text(net), "a0-c2 a1-a2 a3-b0 b1-b2 b3-c0 c1-c3")
        self.assertEqual(net_read("a0-c2 a1-a2 a3-b0 b1-b2 b3-c0 c1-c3"), net)

    def test_all_letters_and_seats(self):
        net = [31 - end for end in range(32)]
        text = ("a0-h3 a1-h2 a2-h1 a3-h0 b0-g3 b1-g2 b2-g1 b3-g0 "
                "c0-f3 c1-f2 c2-f1 c3-f0 d0-e3 d1-e2 d2-e1 d3-e0")
        self.assertEqual(net_text(net), text)
        self.assertEqual(net_read(text), net)

    def test_the_ties_rise_and_have_the_lesser_end_first(self):
        for net in drawn_nets():
            words = net_text(net).split(" ")
            self.assertEqual(words, sorted(words))
            for word in words:
                self.assertLess(word[:2], word[3:])

    def test_the_net_is_not_changed(self):
        net = [1, 0, 3, 2]
        net_text(net)
        self.assertEqual(net, [1, 0, 3, 2])


class Read(unittest.TestCase):
    def test_every_net_that_is_written_is_read_as_itself(self):
        for net in small_nets() + drawn_nets():
            self.assertEqual(net_read(net_text(net)), net)

    def test_ties_in_any_order_and_either_end_first(self):
        self.assertEqual(net_read("b2-b1 b0-a3 a1-a0 a2-b3"), net_read(TWO))
        for seed, net in enumerate(drawn_nets()):
            chance = Random(seed)
            words = net_text(net).split(" ")
            chance.shuffle(words)
            words = [chance.choice((word, word[3:] + "-" + word[:2])) for word in words]
            self.assertEqual(net_read(" ".join(words)), net)

    def test_the_told_list_is_the_askers_own(self):
        net = net_read(TWO)
        net.clear()
        self.assertEqual(net_read(TWO), [1, 0, 7, 4, 3, 6, 5, 2])


class Refused(unittest.TestCase):
    def test_the_text_without_signs(self):
        self.assertEqual(fault(""), 0)

    def test_a_wrong_letter(self):
        for wrong in "izAH0-`@":
            self.assertEqual(fault(f"a0-a1 a2-{wrong}3"), 1, wrong)
            self.assertEqual(fault(f"{wrong}0-a1 a2-a3"), 0, wrong)

    def test_a_wrong_figure(self):
        for wrong in "4579a-/":
            self.assertEqual(fault(f"a0-a1 a2-a{wrong}"), 1, wrong)
            self.assertEqual(fault(f"a{wrong}-a1 a2-a3"), 0, wrong)

    def test_a_ninth_place(self):
        loops = " ".join(f"{letter}0-{letter}1 {letter}2-{letter}3" for letter in "abcdefgh")
        self.assertIsNone(fault(loops))
        self.assertEqual(fault(loops + " i0-i1 i2-i3"), 16)

    def test_signs_that_lack(self):
        for wrong in ("a", "a2", "a2-", "a2-a", "a2a3", "-a3", "2-a3", "a2-3", "-", "--"):
            self.assertEqual(fault(f"a0-a1 {wrong}"), 1, wrong)
            self.assertEqual(fault(f"{wrong} a0-a1"), 0, wrong)

    def test_signs_too_many(self):
        for wrong in ("a2-a3-", "-a2-a3", "a2--a3", "a2-a33", "a22-a3", "aa2-a3", "a2-a3-a3", "a2-a3,", "a2-a3.", "a2-a03"):
            self.assertEqual(fault(f"a0-a1 {wrong}"), 1, wrong)

    def test_another_sign_between(self):
        for wrong in ("a2_a3", "a2+a3", "a2=a3", "a2~a3"):
            self.assertEqual(fault(f"a0-a1 {wrong}"), 1, wrong)

    def test_blanks(self):
        self.assertEqual(fault(" a0-a1 a2-a3"), 0)
        self.assertEqual(fault("a0-a1 a2-a3 "), 2)
        self.assertEqual(fault("a0-a1  a2-a3"), 1)
        self.assertEqual(fault(" "), 0)
        self.assertEqual(fault("a0 - a1 a2-a3"), 0)
        self.assertEqual(fault("a0- a1 a2-a3"), 0)

    def test_an_end_twice_in_a_word(self):
        self.assertEqual(fault("a0-a0 a1-a2"), 0)
        self.assertEqual(fault("a0-a1 a3-a3"), 1)

    def test_an_end_that_stood_in_a_word_ahead(self):
        self.assertEqual(fault("a0-a1 a1-a2 a2-a3"), 1)
        self.assertEqual(fault("a0-a1 a2-a0"), 1)
        self.assertEqual(fault("a0-a1 a2-a3 a0-a1"), 2)
        self.assertEqual(fault("a0-a1 a2-a3 a1-a0"), 2)
        self.assertEqual(fault("a0-a1 a2-a3 b0-b1 b2-a3"), 3)

    def test_ends_that_lack(self):
        self.assertEqual(fault("a0-a1"), 1)
        self.assertEqual(fault("a2-a3"), 1)
        self.assertEqual(fault("b0-b1 b2-b3"), 2)
        self.assertEqual(fault("a0-a1 a2-a3 b0-b1"), 3)
        self.assertEqual(fault("a0-a1 a2-a3 c0-c1 c2-c3"), 4)
        self.assertEqual(fault("a0-a1 a2-b3"), 2)
        self.assertEqual(fault("a0-a1 a2-b3 b0-b1"), 3)
        self.assertEqual(fault("a0-b0 a1-c1 a2-b2 a3-b3 b1-c2"), 5)

    def test_a_wrong_word_goes_ahead_of_ends_that_lack(self):
        self.assertEqual(fault("b0-b1 x"), 1)
        self.assertEqual(fault("h0-h1 h1-h2 h9-h3"), 1)

    def test_long_texts(self):
        self.assertEqual(fault("a" * 1000), 0)
        self.assertEqual(fault(" " * 1000), 0)
        self.assertEqual(fault("a0-a1 " + "9" * 900), 1)

    def test_every_text_near_to_one_that_is_read(self):
        for text in ("a0-a1 a2-a3", TWO):
            for at in range(len(text) + 1):
                self.agree(text[:at] + text[at + 1:])
                for sign in " -0a123459bchiA~":
                    self.agree(text[:at] + sign + text[at:])
                    self.agree(text[:at] + sign + text[at + 1:])

    def test_words_lacking_doubled_and_exchanged(self):
        for net in drawn_nets():
            words = net_text(net).split(" ")
            for at in range(len(words)):
                self.agree(" ".join(words[:at] + words[at + 1:]))
                self.agree(" ".join(words + [words[at]]))
                self.agree(" ".join(words[:at] + [words[at - 1][:3] + words[at][3:]] + words[at + 1:]))

    def agree(self, text):
        self.assertEqual(fault(text), fault_by_the_words(text), text)


if __name__ == "__main__":
    unittest.main()
