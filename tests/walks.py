"""Rounds for the tests, counted apart from the program: by what hangs together, not by walking."""

PAIRS = (((0, 1), (2, 3)), ((0, 2), (1, 3)), ((0, 3), (1, 2)))


def parts_by_merging(net, choice):
    """The sets of ends that ties and joints hold together, one for each round."""
    part = {end: {end} for end in range(len(net))}
    links = list(enumerate(net))
    for place, way in enumerate(choice):
        links += [(4 * place + one, 4 * place + other) for one, other in PAIRS[way]]
    for one, other in links:
        both = part[one] | part[other]
        for end in both:
            part[end] = both
    return {frozenset(ends) for ends in part.values()}


def rounds_by_merging(net, choice):
    return len(parts_by_merging(net, choice))
