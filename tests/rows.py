"""Tables for the tests, and what is to be told of them, found apart from the program by going through all sets."""

from itertools import chain, combinations, product
from random import Random


def all_tables(size):
    """Every table of a size."""
    seats = [(i, j) for i in range(size) for j in range(i, size)]
    for numbers in product((0, 1), repeat=len(seats)):
        yield filled(size, dict(zip(seats, numbers)))


def all_webs(size):
    """Every web of so many points."""
    seats = list(combinations(range(size), 2))
    for numbers in product((0, 1), repeat=len(seats)):
        yield filled(size, dict(zip(seats, numbers)))


def filled(size, numbers):
    return [[numbers.get((min(i, j), max(i, j)), 0) for j in range(size)] for i in range(size)]


def drawn_table(size, seed):
    """A table of a size; some seeds make it thin, so that rests of many sizes come up."""
    chance = Random(seed)
    ones = chance.choice((1, 3, 5, 7, 9))
    seats = [(i, j) for i in range(size) for j in range(i, size)]
    return filled(size, {seat: int(chance.randrange(10) < ones) for seat in seats})


def thin_table(size, seed):
    """A table with few unlike rows: some of its numbers have the same row as others."""
    chance = Random(seed)
    few = drawn_table(max(1, size // 2), seed)
    like = [chance.randrange(len(few)) for i in range(size)]
    return [[few[i][j] for j in like] for i in like]


def drawn_tables(sizes=range(11), each=12):
    drawn = [drawn_table(size, 100 * size + seed) for size in sizes for seed in range(each)]
    return drawn + [thin_table(size, 100 * size + seed) for size in sizes for seed in range(each)]


def drawn_web(size, seed):
    table = drawn_table(size, seed)
    return [[0 if i == j else table[i][j] for j in range(size)] for i in range(size)]


def drawn_webs(sizes=range(11), each=12):
    return [drawn_web(size, 100 * size + seed) for size in sizes for seed in range(each)]


def all_sets(numbers):
    """Every set of some numbers, as rising tuples."""
    numbers = sorted(numbers)
    return list(chain.from_iterable(combinations(numbers, many) for many in range(len(numbers) + 1)))


def sum_at(table, numbers):
    """The rows of some numbers, added by counting the ones in each column."""
    return [sum(table[i][j] for i in numbers) % 2 for j in range(len(table))]


def sums_of(table):
    """Every row that is a sum of some rows of the table."""
    found = {(0,) * len(table)}
    for row in table:
        found |= {tuple((a + b) % 2 for a, b in zip(row, other)) for other in found}
    return found


def rank_by_sums(table):
    """The number of unlike sums is 2 to the rank."""
    return len(sums_of(table)).bit_length() - 1


def part_of(table, numbers):
    return [[table[i][j] for j in numbers] for i in numbers]


def is_undone_part(table, numbers):
    """Whether the part can be undone: whether no sum of some of its rows but that of none is nought."""
    return rank_by_sums(part_of(table, numbers)) == len(numbers)


def greatest_by_sets(table):
    return max(len(numbers) for numbers in all_sets(range(len(table))) if is_undone_part(table, numbers))


def times(one, other):
    size = range(len(one))
    return [[sum(one[i][k] * other[k][j] for k in size) % 2 for j in size] for i in size]


def unit(size):
    return [[int(i == j) for j in range(size)] for i in range(size)]
