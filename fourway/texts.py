"""Nets as texts: a place by its letter, an end by its place and seat, a tie by its two ends."""

from fourway.errors import NoText
from fourway.nets import MOST_PLACES, SEATS, fills_places

SMALL_LETTERS = "abcdefghijklmnopqrstuvwxyz"
SEAT_FIGURES = "0123"


def net_text(net):
    # Each tie is met at both of its ends, and written at the lesser one.
    return " ".join([tie_text(end, net[end]) for end in range(len(net)) if end < net[end]])


def net_read(text):
    words = text.split(" ")
    tied = {}
    for at, word in enumerate(words):
        ends = tie_read(word)
        if ends is None or not are_new(ends, tied):
            raise NoText(at)
        tied[ends[0]] = ends[1]
        tied[ends[1]] = ends[0]
    if not are_all_ends(list(tied)):
        raise NoText(len(words))
    return [tied[end] for end in range(len(tied))]


def end_text(end):
    return SMALL_LETTERS[end // SEATS] + SEAT_FIGURES[end % SEATS]


def tie_text(one, other):
    return end_text(one) + "-" + end_text(other)


def end_read(word):
    if len(word) != 2:
        return None
    place = SMALL_LETTERS[:MOST_PLACES].find(word[0])
    seat = SEAT_FIGURES.find(word[1])
    if place < 0 or seat < 0:
        return None
    return place * SEATS + seat


def tie_read(word):
    ends = [end_read(side) for side in word.split("-")]
    if len(ends) != 2 or None in ends:
        return None
    return ends


def are_new(ends, tied):
    return ends[0] != ends[1] and ends[0] not in tied and ends[1] not in tied


def are_all_ends(ends):
    # The ends are unlike: where the greatest is the last of so many, none lacks.
    return fills_places(len(ends)) and max(ends) == len(ends) - 1
