"""A choice that leaves one round read as a ring word, and a ring word as a net."""

from fourway.errors import TooMany
from fourway.nets import MOST_PLACES, SEATS
from fourway.rounds import refuse_many, round_of
from fourway.texts import SMALL_LETTERS
from fourway.words import letters_of


def word_by(net, choice):
    refuse_many(net, choice)
    return "".join([SMALL_LETTERS[end // SEATS] for end in round_of(net, choice, 0)[::2]])


def net_by(word):
    if len(place_order(word)) > MOST_PLACES:
        raise TooMany("a net has at most eight places")
    entries = [entry_at(word, at) for at in range(len(word))]
    net = [0] * (2 * len(word))
    for at, entry in enumerate(entries):
        # One comes to the first sign from the last one, which is at -1.
        out = entries[at - 1] + 1
        net[out] = entry
        net[entry] = out
    return net


def place_order(word):
    return "".join([sign for at, sign in enumerate(word) if word.find(sign) == at])


def choice_by(word, choice):
    letters = letters_of(word)
    return [choice[letters.find(letter)] for letter in place_order(word)]


def entry_at(word, at):
    place = place_order(word).find(word[at])
    return place * SEATS + (0 if word.find(word[at]) == at else 2)
