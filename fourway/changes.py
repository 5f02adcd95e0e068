"""Changes of ring words, and the same changes of their crossings, told by the web alone."""

from fourway.errors import NoCross
from fourway.pivots import exchanged_at, turned_at
from fourway.tables import copied, do_cross
from fourway.words import first_place, places_of


class Change:
    pass


class Turn(Change):
    def __init__(self, letter):
        self.letter = letter

    def done(self, word):
        places = places_of(word, self.letter)
        start = places[0] + 1
        return word[:start] + word[start:places[1]][::-1] + word[places[1]:]

    def done_web(self, letters, web):
        return turned_at(web, first_place(letters, self.letter))

    def back(self):
        return Turn(self.letter)


class Swap(Change):
    def __init__(self, one, other):
        self.one = one
        self.other = other

    def done(self, word):
        cuts = sorted(places_of(word, self.one) + places_of(word, self.other))
        if not do_cross(word, self.one, self.other):
            raise NoCross("the letters do not cross in the word")
        return exchanged(word, cuts)

    def done_web(self, letters, web):
        one = first_place(letters, self.one)
        other = first_place(letters, self.other)
        if web[one][other] != 1:
            raise NoCross("the letters do not cross in the web")
        return exchanged_at(web, one, other)

    def back(self):
        return Swap(self.one, self.other)


class Mirror(Change):
    def done(self, word):
        return word[::-1]

    def done_web(self, letters, web):
        return copied(web)

    def back(self):
        return Mirror()


class Shift(Change):
    def __init__(self, by):
        self.by = by

    def done(self, word):
        return shifted(word, self.by)

    def done_web(self, letters, web):
        return copied(web)

    def back(self):
        return Shift(-self.by)


def done_all(word, changes):
    told = word
    for change in changes:
        told = change.done(told)
    return told


def shifted(word, by):
    signs = by % len(word)
    return word[signs:] + word[:signs]


def exchanged(word, cuts):
    first = word[cuts[0] + 1:cuts[1]]
    between = word[cuts[1]:cuts[2] + 1]
    second = word[cuts[2] + 1:cuts[3]]
    return word[:cuts[0] + 1] + second + between + first + word[cuts[3]:]
