"""Ring words: texts of small letters, each of which stands just twice."""

from fourway.errors import NoLetter, NoWord
from fourway.texts import SMALL_LETTERS

MOST_SIGNS = 20


def word_told(text):
    at = fault_in(text)
    if at is not None:
        raise NoWord(at)
    return text


def letters_of(word):
    return "".join(sorted(set(word)))


def places_of(word, letter):
    return (first_place(word, letter), word.rfind(letter))


def first_place(text, letter):
    # A longer text, or the one without signs, may stand in a text too and is no letter all the same.
    if len(letter) != 1 or letter not in text:
        raise NoLetter(letter)
    return text.find(letter)


def is_small_letter(text):
    return len(text) == 1 and text in SMALL_LETTERS


def fault_in(text):
    if text == "":
        return 0
    for at, sign in enumerate(text):
        if at == MOST_SIGNS or not is_small_letter(sign) or text[:at].count(sign) > 1:
            return at
    # None of the faults that are looked at sign by sign: so only now may a letter that lacks its other be told.
    for at, sign in enumerate(text):
        if text.count(sign) == 1:
            return at
    return None
