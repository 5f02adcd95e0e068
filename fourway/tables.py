"""Tables of noughts and ones that are the same across, and the crossings of a ring word."""

from fourway.nets import is_whole
from fourway.words import letters_of, places_of

MOST_ROWS = 10


def is_table(thing):
    return is_square(thing) and thing == columns_of(thing)


def is_web(thing):
    return is_table(thing) and all([thing[i][i] == 0 for i in range(len(thing))])


def crossings(word):
    letters = letters_of(word)
    return [[1 if do_cross(word, one, other) else 0 for other in letters] for one in letters]


def part_at(table, numbers):
    return [[table[i][j] for j in numbers] for i in numbers]


def product(one, other):
    # What the first has in row i picks the rows of the second that are added.
    return [sum_of_rows(other, ones_in(row)) for row in one]


def sum_of_rows(table, numbers):
    total = [0] * len(table)
    for number in numbers:
        total = added(total, table[number])
    return total


def has_number(table, number):
    return is_whole(number) and 0 <= number < len(table)


def is_square(thing):
    return isinstance(thing, list) and len(thing) <= MOST_ROWS and all([is_row(row, len(thing)) for row in thing])


def is_row(thing, many):
    return isinstance(thing, list) and len(thing) == many and all([is_nought_or_one(number) for number in thing])


def is_nought_or_one(thing):
    return is_whole(thing) and 0 <= thing <= 1


def columns_of(rows):
    return [[row[j] for row in rows] for j in range(len(rows))]


def copied(rows):
    return [list(row) for row in rows]


def added(one, other):
    return [one[j] ^ other[j] for j in range(len(one))]


def ones_in(row):
    return [j for j in range(len(row)) if row[j] == 1]


def do_cross(word, one, other):
    places = places_of(word, one)
    return word[places[0] + 1:places[1]].count(other) == 1
