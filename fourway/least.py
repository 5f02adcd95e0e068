"""Least writings of ring words, and whether two are the same on the ring."""

from fourway.changes import shifted
from fourway.reading import place_order
from fourway.texts import SMALL_LETTERS
from fourway.words import letters_of


def least_writing(word):
    forward = [written(form_of(word, shift, False)) for shift in range(len(word))]
    backward = [written(form_of(word, shift, True)) for shift in range(len(word))]
    return min(forward + backward)


def compared(one, other):
    for shift in range(len(one)):
        for mirrored in (False, True):
            form = form_of(one, shift, mirrored)
            if written(form) == written(other):
                return ("same", shift, mirrored, letters_changed(one, form, other))
    return ("unlike", least_writing(one), least_writing(other))


def form_of(word, shift, mirrored):
    told = shifted(word, shift)
    return told[::-1] if mirrored else told


def written(word):
    order = place_order(word)
    return "".join([SMALL_LETTERS[order.find(sign)] for sign in word])


def letters_changed(one, form, other):
    return "".join([other[form.find(letter)] for letter in letters_of(one)])
