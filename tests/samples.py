"""Nets for the tests, made apart from the program."""

from random import Random


def all_nets(ends):
    """Every way to tie the ends of a list two and two, as dicts of end to end."""
    if not ends:
        return [{}]
    first = ends[0]
    nets = []
    for other in ends[1:]:
        rest = [end for end in ends if end not in (first, other)]
        for net in all_nets(rest):
            nets.append({first: other, other: first, **net})
    return nets


def listed(net):
    return [net[end] for end in range(len(net))]


def small_nets():
    """Every net of one place and of two."""
    return [listed(net) for places in (1, 2) for net in all_nets(list(range(4 * places)))]


def drawn_net(places, seed):
    ends = list(range(4 * places))
    Random(seed).shuffle(ends)
    net = {}
    for one, other in zip(ends[::2], ends[1::2]):
        net[one] = other
        net[other] = one
    return listed(net)


def drawn_nets():
    """Some nets of each number of places from one to eight, the same ones each time."""
    return [drawn_net(places, 100 * places + seed) for places in range(1, 9) for seed in range(25)]
