"""Tables pivoted at one number or at two, and webs changed by the like rules."""

from fourway.errors import NoPivot
from fourway.tables import has_number, ones_in, part_at


def pivoted(table, numbers):
    if not all([has_number(table, number) for number in numbers]):
        raise NoPivot("the table lacks one of the numbers")
    if len(numbers) == 1 and table[numbers[0]][numbers[0]] == 1:
        near = near_to(table, numbers[0])
        return changed_where(table, lambda i, j: i in near and j in near)
    if part_at(table, numbers) == [[0, 1], [1, 0]]:
        return exchanged_at(table, numbers[0], numbers[1])
    raise NoPivot("no pivot at these numbers")


def turned_at(web, point):
    near = near_to(web, point)
    return changed_where(web, lambda i, j: i != j and i in near and j in near)


def exchanged_at(table, one, other):
    sides = [(table[one][i], table[other][i]) for i in range(len(table))]
    # The two themselves stay out: of what stands for them nothing is changed ahead of the exchange.
    sides[one] = (0, 0)
    sides[other] = (0, 0)
    changed = changed_where(table, lambda i, j: 1 in sides[i] and 1 in sides[j] and sides[i] != sides[j])
    # Both have 0 with themselves: so to exchange what they have with the others is to exchange them whole.
    order = list(range(len(table)))
    order[one] = other
    order[other] = one
    return part_at(changed, order)


def near_to(table, number):
    return [i for i in ones_in(table[number]) if i != number]


def changed_where(table, is_changed):
    size = len(table)
    return [[table[i][j] ^ (1 if is_changed(i, j) else 0) for j in range(size)] for i in range(size)]
