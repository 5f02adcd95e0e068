"""The rounds to which the ties of a net close by a choice."""

from fourway.choices import joined
from fourway.errors import NoOne
from fourway.nets import SEATS


def round_of(net, choice, end):
    ends = [end, joined_end(choice, end)]
    while net[ends[-1]] != end:
        come = net[ends[-1]]
        ends.extend([come, joined_end(choice, come)])
    return ends


def rounds_of(net, choice):
    rounds = []
    passed = {}
    for end in range(len(net)):
        if end not in passed:
            ends = round_of(net, choice, end)
            rounds.append(ends)
            passed.update([(met, True) for met in ends])
    return rounds


def many_rounds(net, choice):
    return len(rounds_of(net, choice))


def refuse_many(net, choice):
    many = many_rounds(net, choice)
    if many != 1:
        raise NoOne(many)


def joined_end(choice, end):
    place = end // SEATS
    return place * SEATS + joined(choice[place], end % SEATS)
