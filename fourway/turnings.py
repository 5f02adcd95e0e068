"""Choices that leave one round, turned at places and led to one another."""

from fourway.choices import ALL_WAYS, MOST_CHOSEN, changed_at
from fourway.errors import TooMany
from fourway.nets import places_in
from fourway.rounds import many_rounds, refuse_many


def turned_choice(net, choice, place):
    refuse_many(net, choice)
    return turned(net, choice, place)


def way_between(net, one, other):
    if places_in(net) > MOST_CHOSEN:
        raise TooMany("ways are told for nets of at most six places")
    refuse_many(net, one)
    refuse_many(net, other)
    ways = {tuple(one): []}
    edge = [one]
    # What is come to first is come to by as few turns as can be.
    while tuple(other) not in ways:
        edge = next_edge(net, edge, ways)
    return ways[tuple(other)]


def walked(net, choice, places):
    refuse_many(net, choice)
    choices = [list(choice)]
    for place in places:
        choices.append(turned(net, choices[-1], place))
    return choices


def turned(net, choice, place):
    others = [changed_at(choice, place, way) for way in ALL_WAYS if way != choice[place]]
    return others[0] if many_rounds(net, others[0]) == 1 else others[1]


def next_edge(net, edge, ways):
    beyond = []
    for choice in edge:
        for place in range(len(choice)):
            come = turned(net, choice, place)
            if tuple(come) not in ways:
                ways[tuple(come)] = ways[tuple(choice)] + [place]
                beyond.append(come)
    return beyond
