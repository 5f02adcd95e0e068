"""A desk that keeps a ring word and answers lines."""

from fourway.byrests import rounds_by_rest
from fourway.changes import Mirror, Shift, Swap, Turn
from fourway.counts import counts_of
from fourway.errors import NoDeed, NoLine
from fourway.least import compared, least_writing
from fourway.reading import net_by
from fourway.tables import crossings, ones_in
from fourway.texts import net_text
from fourway.words import first_place, is_small_letter, letters_of, word_told

FIRST_WORD = "aa"
FIGURES = "0123456789"
WAY_FIGURES = "012"
FORMS = {
    "word": ("text",),
    "turn": ("letter",),
    "swap": ("letter", "letter"),
    "mirror": (),
    "shift": ("number",),
    "undo": (),
    "show": (),
    "least": (),
    "net": (),
    "cross": ("letter",),
    "rounds": ("ways",),
    "counts": (),
    "same": ("text",),
}
CHANGING = ("word", "turn", "swap", "mirror", "shift")


class Desk:
    def __init__(self):
        self.word = FIRST_WORD
        self.ahead = []

    def told(self, line):
        words = line.split(" ")
        if not is_line(words, self.word):
            raise NoLine("no line of the desk")
        if words[0] == "undo":
            return self.undo_last()
        if words[0] in CHANGING:
            return self.keep(changed_word(self.word, words))
        return answer(self.word, words)

    def keep(self, word):
        self.ahead.append(self.word)
        self.word = word
        return self.word

    def undo_last(self):
        if not self.ahead:
            raise NoDeed("nothing is left to be undone")
        self.word = self.ahead.pop()
        return self.word


def is_line(words, kept):
    if words[0] not in FORMS or len(words) - 1 != len(FORMS[words[0]]):
        return False
    return all([fits(form, word, kept) for form, word in zip(FORMS[words[0]], words[1:])])


def fits(form, word, kept):
    if form == "letter":
        return is_small_letter(word)
    if form == "number":
        return is_number(word)
    if form == "ways":
        return len(word) == len(letters_of(kept)) and are_signs(word, WAY_FIGURES)
    return word != ""


def is_number(word):
    return word == "0" or (1 <= len(word) <= 3 and are_signs(word, FIGURES) and word[0] != "0")


def are_signs(word, signs):
    return all([sign in signs for sign in word])


def changed_word(word, words):
    if words[0] == "word":
        return word_told(words[1])
    return change_of(words).done(word)


def change_of(words):
    if words[0] == "turn":
        return Turn(words[1])
    if words[0] == "swap":
        return Swap(words[1], words[2])
    if words[0] == "shift":
        return Shift(int(words[1]))
    return Mirror()


def answer(word, words):
    if words[0] == "least":
        return least_writing(word)
    if words[0] == "net":
        return net_text(net_by(word))
    if words[0] == "cross":
        return crossing_letters(word, words[1])
    if words[0] == "rounds":
        return str(rounds_by_rest(word, [int(figure) for figure in words[1]]))
    if words[0] == "counts":
        return " ".join([str(count) for count in counts_of(net_by(word))[1:]])
    if words[0] == "same":
        return "yes" if compared(word, word_told(words[1]))[0] == "same" else "no"
    return word


def crossing_letters(word, letter):
    letters = letters_of(word)
    row = crossings(word)[first_place(letters, letter)]
    return "".join([letters[j] for j in ones_in(row)]) if 1 in row else "-"
