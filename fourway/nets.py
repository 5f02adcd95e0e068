"""Nets: four ends of ties meet at each place, and each end is tied to another one."""

from fourway.errors import NoNet

SEATS = 4
MOST_PLACES = 8


def net_of(numbers):
    if not fills_places(len(numbers)):
        raise NoNet(-1)
    for end in range(len(numbers)):
        if not is_tied(numbers, end):
            raise NoNet(end)
    return list(numbers)


def places_in(net):
    return len(net) // SEATS


def hangs_together(net):
    parts = list(range(places_in(net)))
    for end in range(len(net)):
        parts = merged(parts, end // SEATS, net[end] // SEATS)
    return all([part == parts[0] for part in parts])


def fills_places(many):
    return many % SEATS == 0 and 1 <= many // SEATS <= MOST_PLACES


def is_tied(numbers, end):
    other = numbers[end]
    return is_end(other, len(numbers)) and other != end and numbers[other] == end


def is_end(number, many):
    return is_whole(number) and 0 <= number < many


def is_whole(thing):
    # Python counts its truths among the ints; here they stand for no number.
    return isinstance(thing, int) and not isinstance(thing, bool)


def merged(parts, one, other):
    return [parts[one] if part == parts[other] else part for part in parts]
