"""Undoings of tables, their rests, and papers that show the rests."""

from fourway.nets import is_whole
from fourway.tables import added, ones_in, part_at, sum_of_rows


def undoing(table):
    size = len(table)
    rows = [table[i] + unit_row(size, i) for i in range(size)]
    for column in range(size):
        leads = [at for at in range(column, size) if rows[at][column] == 1]
        if not leads:
            return None
        rows = cleared(rows, column, leads[0])
    return [row[size:] for row in rows]


def rest_of(table):
    return len(table) - len(greatest_part(table))


def paper_of(table):
    part = greatest_part(table)
    undone = undoing(part_at(table, part))
    return (part, undone, nothings_of(table, part, undone))


def shows_rest(table, paper):
    part = paper[0]
    if not is_set(table, part) or len(part) != len(greatest_part(table)):
        return False
    undone = undoing(part_at(table, part))
    if undone is None:
        return False
    return is_listed(paper[1], undone) and is_listed(paper[2], nothings_of(table, part, undone))


def is_set(table, numbers):
    return are_whole(numbers) and numbers == [i for i in range(len(table)) if i in numbers]


def greatest_part(table):
    # Where rows of a table that is the same across make up all others by sums, and none of them is such a sum,
    # the part at their numbers can be undone.
    part = []
    leaders = []
    for number, row in enumerate(table):
        left = less_leaders(row, leaders)
        if 1 in left:
            part.append(number)
            leaders.append(left)
    return part


def less_leaders(row, leaders):
    left = row
    for leader in leaders:
        if left[leader.index(1)] == 1:
            left = added(left, leader)
    return left


def cleared(rows, column, at):
    lead = rows[at]
    others = [added(row, lead) if row[column] == 1 else row for row in rows]
    others[at] = others[column]
    others[column] = lead
    return others


def unit_row(size, number):
    return [1 if i == number else 0 for i in range(size)]


def nothings_of(table, part, undone):
    return [nothing_at(table, part, undone, i) for i in range(len(table)) if i not in part]


def nothing_at(table, part, undone, number):
    # Row number at the columns of the part, times the undoing, tells which rows of the part add up to it.
    row = [table[number][j] for j in part]
    picked = ones_in(sum_of_rows(undone, ones_in(row)))
    return sorted([number] + [part[k] for k in picked])


def is_listed(lists, wanted):
    # Python holds a truth for equal to a number.
    return lists == wanted and all([are_whole(numbers) for numbers in lists])


def are_whole(numbers):
    return all([is_whole(number) for number in numbers])
