"""Nets, ring words and choices for the tests, made apart from the program."""

from itertools import product
from random import Random


def all_nets(ends):
    """Every way to tie the ends of a list two and two, as dicts of end to end."""
    if not ends:
        return [{}]
    first = ends[0]
    nets = []
    for other in ends[1:]:
        rest = [end for end in ends if end not in (first, other)]
        for net in all_nets(rest):
            nets.append({first: other, other: first, **net})
    return nets


def listed(net):
    return [net[end] for end in range(len(net))]


def small_nets():
    """Every net of one place and of two."""
    return [listed(net) for places in (1, 2) for net in all_nets(list(range(4 * places)))]


def drawn_net(places, seed):
    ends = list(range(4 * places))
    Random(seed).shuffle(ends)
    net = {}
    for one, other in zip(ends[::2], ends[1::2]):
        net[one] = other
        net[other] = one
    return listed(net)


def drawn_nets():
    """Some nets of each number of places from one to eight, the same ones each time."""
    return [drawn_net(places, 100 * places + seed) for places in range(1, 9) for seed in range(25)]


def small_letters():
    return "abcdefghijklmnopqrstuvwxyz"


def all_words(many):
    """Every ring word of so many letters that first stand in the order a, b, c and so on."""
    words = []
    for pairs in all_nets(list(range(2 * many))):
        firsts = [place for place in pairs if place < pairs[place]]
        names = {min(place, pairs[place]): letter for place, letter in zip(sorted(firsts), small_letters())}
        words.append("".join(names[min(place, pairs[place])] for place in range(2 * many)))
    return words


def drawn_word(many, seed):
    """A ring word of so many letters, any ones in any order."""
    chance = Random(seed)
    signs = 2 * chance.sample(small_letters(), many)
    chance.shuffle(signs)
    return "".join(signs)


def drawn_words(most=10, each=12):
    """Some ring words of each number of letters from one up to the most, the same ones each time."""
    return [drawn_word(many, 1000 * many + seed) for many in range(1, most + 1) for seed in range(each)]


def drawn_choice(many, seed):
    chance = Random(seed)
    return [chance.randrange(3) for way in range(many)]


def drawn_choices(many, each=10):
    """Some choices, and ahead of them those of one way alone."""
    return [[way] * many for way in range(3)] + [drawn_choice(many, 77 * many + seed) for seed in range(each)]


def nets_with_choices():
    """Nets of one to eight places, each with some choices; the smallest with all."""
    for net in small_nets():
        for choice in product(range(3), repeat=len(net) // 4):
            yield net, list(choice)
    for net in drawn_nets():
        for choice in drawn_choices(len(net) // 4, 5):
            yield net, choice


def renamed(word):
    """The word with its letters changed for a, b, c as they first stand."""
    names = {}
    for sign in word:
        names.setdefault(sign, small_letters()[len(names)])
    return "".join(names[sign] for sign in word)
