"""Choices: at each place one of three ways to join its four ends two and two."""

from fourway.errors import TooMany

ALL_WAYS = (0, 1, 2)
MOST_CHOSEN = 6


def joined(way, seat):
    # The seats 0 to 3 as two bits: each way joins those that differ by the same bits, 01, 10 or 11.
    return seat ^ (way + 1)


def all_choices(n):
    return choices_among(n, ALL_WAYS)


def choices_among(n, ways):
    if n > MOST_CHOSEN:
        raise TooMany("choices are told for at most six")
    choices = [[]]
    for place in range(n):
        choices = lengthened(choices, ways)
    return choices


def lengthened(choices, ways):
    longer = []
    for choice in choices:
        longer.extend([choice + [way] for way in ways])
    return longer


def changed_at(choice, place, way):
    changed = list(choice)
    changed[place] = way
    return changed
