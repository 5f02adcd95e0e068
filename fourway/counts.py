"""Counts of choices by the rounds, or by the rests, that they leave, and what counts are worth."""

from fourway.byrests import chosen_part
from fourway.choices import ALL_WAYS, MOST_CHOSEN, choices_among, joined
from fourway.errors import TooMany
from fourway.nets import SEATS, places_in
from fourway.ranks import rest_of

ARROWED_WAYS = (0, 2)


def counts_of(net, order=None):
    if places_in(net) > MOST_CHOSEN:
        raise TooMany("counts are told of nets of at most six places")
    places = list(range(places_in(net))) if order is None else order
    # The ties that are left when places are taken out, and by how many ways so many rounds closed till then.
    counted = {tuple(net): [1]}
    for place in places:
        counted = without_place(counted, place)
    return counted[tuple([None for end in net])]


def table_counts(table):
    return counts_by_rests(table, ALL_WAYS)


def arrowed_counts(table):
    return counts_by_rests(table, ARROWED_WAYS)


def worth_at(counts, x):
    worth = 0
    for count in reversed(counts):
        worth = worth * x + count
    return worth


def without_place(counted, place):
    left = {}
    for ties in counted:
        for way in ALL_WAYS:
            joint = list(ties)
            closed = join_place(joint, place, way)
            ahead = left.get(tuple(joint), [])
            left[tuple(joint)] = summed(ahead, [0] * closed + counted[ties])
    return left


def join_place(ties, place, way):
    closed = 0
    for seat in range(SEATS):
        mate = joined(way, seat)
        if seat < mate:
            closed = closed + join_ends(ties, place * SEATS + seat, place * SEATS + mate)
    return closed


def join_ends(ties, one, other):
    far = ties[one]
    near = ties[other]
    ties[one] = None
    ties[other] = None
    if far == other:
        return 1
    ties[far] = near
    ties[near] = far
    return 0


def summed(one, other):
    longest = max(len(one), len(other))
    return [count_at(one, k) + count_at(other, k) for k in range(longest)]


def count_at(counts, k):
    return counts[k] if k < len(counts) else 0


def counts_by_rests(table, ways):
    choices = choices_among(len(table), ways)
    rests = [rest_of(chosen_part(table, choice)) for choice in choices]
    return [rests.count(k) for k in range(max(rests) + 1)]
