"""The rounds of a choice for a ring word, told by the rest of a table."""

from fourway.nets import SEATS
from fourway.ranks import rest_of
from fourway.reading import choice_by, net_by, place_order
from fourway.rounds import rounds_of
from fourway.tables import crossings, part_at
from fourway.words import letters_of


def choice_table(word, choice):
    return chosen_part(crossings(word), choice)


def rounds_by_rest(word, choice):
    return rest_of(choice_table(word, choice)) + 1


def passed_once(word, choice):
    rounds = rounds_of(net_by(word), choice_by(word, choice))
    return [rows_passed_once(word, choice, ends) for ends in rounds]


def chosen_part(table, choice):
    numbers = chosen_numbers(choice)
    part = part_at(table, numbers)
    for at, number in enumerate(numbers):
        part[at][at] = 1 if choice[number] == 1 else 0
    return part


def chosen_numbers(choice):
    return [number for number in range(len(choice)) if choice[number] != 0]


def rows_passed_once(word, choice, ends):
    letters = letters_of(word)
    order = place_order(word)
    passed = [order[end // SEATS] for end in ends]
    return [row for row, number in enumerate(chosen_numbers(choice)) if passed.count(letters[number]) == 2]
