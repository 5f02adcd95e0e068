"""Sets of a table's numbers at which its part can be undone."""

from fourway.errors import NoSet, TooMany
from fourway.ranks import is_set, undoing
from fourway.tables import part_at

MOST_NUMBERS = 6


def can_undo(table, numbers):
    return is_set(table, numbers) and undoing(part_at(table, numbers)) is not None


def sets_of(table):
    if len(table) > MOST_NUMBERS:
        raise TooMany("sets are told for tables of at most six rows")
    sets = [[]]
    for number in range(len(table)):
        sets = sets + [numbers + [number] for numbers in sets]
    return sorted([numbers for numbers in sets if can_undo(table, numbers)])


def other_number(table, one, other, number):
    if not can_undo(table, one) or not can_undo(table, other):
        raise NoSet("one of the sets can't be undone")
    unlike = changed_by(table, one, other)
    if number not in unlike:
        raise NoSet("the number is not in just one of the sets")
    fitting = [i for i in unlike if can_undo(table, changed_by(table, one, [number, i]))]
    return fitting[0]


def changed_by(table, one, other):
    # In for out, out for in; a number that stands twice in the other list is changed once.
    return [i for i in range(len(table)) if (i in one) != (i in other)]
