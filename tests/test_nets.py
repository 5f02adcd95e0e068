import unittest
from itertools import product
from random import Random

from fourway.errors import NoNet
from fourway.nets import hangs_together, net_of, places_in
from tests.samples import drawn_net, drawn_nets, small_nets

LOOPS = [1, 0, 3, 2]
FAR = 10 ** 59 + 7


def beside(*nets):
    """The nets as parts of one net, without ties between them."""
    whole = []
    for net in nets:
        ahead = len(whole)
        whole.extend(ahead + number for number in net)
    return whole


def tied_otherwise(net, one, other):
    """The ties at two ends cut, and the four ends tied crosswise."""
    changed = list(net)
    far, near = net[one], net[other]
    for first, second in ((one, other), (far, near)):
        changed[first], changed[second] = second, first
    return changed


def fault_by_the_words(numbers):
    """Where [5] puts the fault, or None: read off the document, place by place."""
    if len(numbers) not in (4, 8, 12, 16, 20, 24, 28, 32):
        return -1
    ends = range(len(numbers))
    for place in ends:
        number = numbers[place]
        if number not in ends or number == place or numbers[number] != place:
            return place
    return None


def fault(numbers):
    try:
        net_of(numbers)
    except NoNet as refusal:
        return refusal.at
    return None


class Taken(unittest.TestCase):
    def test_nets_of_one_place_up_to_eight(self):
        for net in small_nets() + drawn_nets():
            self.assertEqual(net_of(net), net)

    def test_all_three_nets_of_one_place(self):
        for net in ([1, 0, 3, 2], [2, 3, 0, 1], [3, 2, 1, 0]):
            self.assertEqual(net_of(net), net)

    def test_all_four_ties_between_two_places(self):
        self.assertEqual(net_of([4, 5, 6, 7, 0, 1, 2, 3]), [4, 5, 6, 7, 0, 1, 2, 3])

    def test_ties_at_one_place_and_between_two(self):
        self.assertEqual(net_of([1, 0, 5, 4, 3, 2, 7, 6]), [1, 0, 5, 4, 3, 2, 7, 6])

    def test_the_greatest_net(self):
        net = beside(*[LOOPS] * 8)
        self.assertEqual(len(net_of(net)), 32)

    def test_the_told_list_is_the_askers_own(self):
        numbers = list(LOOPS)
        net = net_of(numbers)
        net[0] = 99
        self.assertEqual(numbers, LOOPS)
        self.assertEqual(net_of(numbers), LOOPS)

    def test_the_list_handed_in_may_change_later(self):
        numbers = list(LOOPS)
        net = net_of(numbers)
        numbers.clear()
        self.assertEqual(net, LOOPS)

    def test_each_asking_tells_a_new_list(self):
        self.assertIsNot(net_of(LOOPS), net_of(LOOPS))


class Refused(unittest.TestCase):
    def test_wrong_lengths(self):
        for many in (0, 1, 2, 3, 5, 6, 7, 9, 31, 33, 34, 36, 40, 100):
            whole = [end + 1 - 2 * (end % 2) for end in range(many)]
            self.assertEqual(fault(whole), -1, many)

    def test_a_wrong_length_goes_ahead_of_wrong_numbers(self):
        self.assertEqual(fault([-5, -5, FAR]), -1)

    def test_numbers_that_are_no_ends(self):
        for wrong in (-1, -2, -4, -FAR, 4, 5, 31, 32, FAR, 10 * FAR - 71):
            for place in range(4):
                numbers = list(LOOPS)
                numbers[place] = wrong
                self.assertEqual(fault(numbers), min(place, LOOPS[place]), numbers)

    def test_the_one_tied_to_a_wrong_number_is_at_fault_ahead_of_it(self):
        self.assertEqual(fault([3, 2, 1, -1]), 0)
        self.assertEqual(fault([3, 2, 1, 4]), 0)
        self.assertEqual(fault([-4, 2, 1, 0]), 0)

    def test_a_number_below_nought_is_not_counted_from_the_end(self):
        self.assertEqual(fault([1, 0, -1, -2]), 2)
        self.assertEqual(fault([-1, -2, -3, -4]), 0)

    def test_the_place_itself(self):
        self.assertEqual(fault([0, 1, 2, 3]), 0)
        self.assertEqual(fault([1, 0, 2, 3]), 2)
        self.assertEqual(fault([1, 0, 3, 2, 4, 5, 7, 6]), 4)

    def test_an_end_at_which_another_number_stands(self):
        self.assertEqual(fault([1, 2, 3, 0]), 0)
        self.assertEqual(fault([1, 0, 3, 1]), 2)
        self.assertEqual(fault([1, 0, 1, 0]), 2)

    def test_only_the_last_places_at_fault(self):
        self.assertEqual(fault(beside(*[LOOPS] * 7) + [29, 28, 31, 31]), 30)
        self.assertEqual(fault(beside(*[LOOPS] * 7) + [29, 28, 31, FAR]), 30)

    def test_every_list_of_four_small_numbers(self):
        for numbers in product(range(-2, 6), repeat=4):
            self.assertEqual(fault(list(numbers)), fault_by_the_words(numbers), numbers)

    def test_every_net_with_one_number_changed(self):
        for net in drawn_nets()[::5]:
            for place in range(len(net)):
                for wrong in (-1, place, len(net) - 1, len(net), FAR, (place + 5) % len(net)):
                    numbers = list(net)
                    numbers[place] = wrong
                    self.assertEqual(fault(numbers), fault_by_the_words(numbers), numbers)

    def test_a_truth_stands_for_no_number(self):
        self.assertEqual(fault([True, 0, 3, 2]), 0)
        self.assertIsNotNone(fault([1, False, 3, 2]))

    def test_what_is_refused_is_not_changed(self):
        numbers = [1, 0, 3, 3]
        self.assertEqual(fault(numbers), 2)
        self.assertEqual(numbers, [1, 0, 3, 3])


class Places(unittest.TestCase):
    def test_one_up_to_eight(self):
        for places in range(1, 9):
            self.assertEqual(places_in(drawn_net(places, places)), places)


def hangs_by_walking(net):
    """From each place, whether each is come to: apart from the program's own way."""
    places = range(len(net) // 4)
    for start in places:
        come_to = {start}
        for step in places:
            come_to |= {net[4 * place + seat] // 4 for place in come_to for seat in range(4)}
        if come_to != set(places):
            return False
    return True


class Together(unittest.TestCase):
    def test_nets_of_one_place_hang_together(self):
        for net in small_nets()[:3]:
            self.assertIs(hangs_together(net), True)

    def test_all_ties_between_two_places(self):
        self.assertIs(hangs_together([4, 5, 6, 7, 0, 1, 2, 3]), True)

    def test_two_parts(self):
        self.assertIs(hangs_together(beside(LOOPS, LOOPS)), False)
        self.assertIs(hangs_together(beside([4, 5, 6, 7, 0, 1, 2, 3], LOOPS)), False)

    def test_three_parts(self):
        self.assertIs(hangs_together(beside(LOOPS, LOOPS, LOOPS)), False)
        double = [4, 5, 6, 7, 0, 1, 2, 3]
        self.assertIs(hangs_together(beside(double, double, double)), False)

    def test_parts_joined_by_one_pair_of_ties(self):
        double = [4, 5, 6, 7, 0, 1, 2, 3]
        two = tied_otherwise(beside(double, double), 3, 8)
        self.assertIs(hangs_together(two), True)
        three = tied_otherwise(beside(two, LOOPS), 13, 17)
        self.assertIs(hangs_together(three), True)
        self.assertIs(hangs_together(beside(two, LOOPS)), False)

    def test_a_chain_in_which_the_places_stand_out_of_order(self):
        chain = beside(*[LOOPS] * 8)
        order = [3, 7, 0, 5, 1, 6, 2, 4]
        for step, (one, other) in enumerate(zip(order, order[1:])):
            self.assertIs(hangs_together(chain), False, step)
            chain = tied_otherwise(chain, 4 * one + 2, 4 * other)
        self.assertIs(hangs_together(chain), True)

    def test_the_ways_agree(self):
        told = []
        for net in small_nets() + drawn_nets():
            told.append(hangs_together(net))
            self.assertIs(told[-1], hangs_by_walking(net), net)
        self.assertEqual(set(told), {True, False})

    def test_the_ways_agree_on_nets_with_few_ties_between_places(self):
        told = []
        for seed in range(400):
            chance = Random(seed)
            net = beside(*[LOOPS] * chance.randint(2, 8))
            for step in range(chance.randint(1, 12)):
                one = chance.randrange(len(net))
                other = chance.choice([end for end in range(len(net)) if end not in (one, net[one])])
                net = net_of(tied_otherwise(net, one, other))
            told.append(hangs_together(net))
            self.assertIs(told[-1], hangs_by_walking(net), net)
        self.assertEqual(set(told), {True, False})

    def test_the_net_is_not_changed(self):
        net = beside(LOOPS, LOOPS)
        hangs_together(net)
        places_in(net)
        self.assertEqual(net, beside(LOOPS, LOOPS))


if __name__ == "__main__":
    unittest.main()
