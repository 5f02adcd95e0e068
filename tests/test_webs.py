import unittest
from copy import deepcopy
from itertools import permutations, product

from fourway.errors import TooMany
from fourway.tables import crossings
from fourway.webs import is_wheel, told_web, turned_web
from fourway.words import word_told
from tests.rows import all_webs, drawn_web, drawn_webs

FAR = 10 ** 59


def wheel_by(order):
    """The wheel whose points stand in an order: the middle, and the ring around it."""
    web = [[0] * 6 for row in range(6)]
    middle, ring = order[0], order[1:]
    ties = [(middle, point) for point in ring] + [(ring[at - 1], ring[at]) for at in range(5)]
    for one, other in ties:
        web[one][other] = web[other][one] = 1
    return web


def turned_by_the_words(web, v):
    told = deepcopy(web)
    near = [i for i in range(len(web)) if web[i][v]]
    for i, j in permutations(near, 2):
        told[i][j] = 1 - web[i][j]
    return told


class Turned(unittest.TestCase):
    def test_small_ones(self):
        self.assertEqual(turned_web([[0]], 0), [[0]])
        self.assertEqual(turned_web([[0, 1], [1, 0]], 0), [[0, 1], [1, 0]])
        self.assertEqual(turned_web([[0, 1, 1], [1, 0, 0], [1, 0, 0]], 0), [[0, 1, 1], [1, 0, 1], [1, 1, 0]])
        self.assertEqual(turned_web([[0, 1, 1], [1, 0, 0], [1, 0, 0]], 1), [[0, 1, 1], [1, 0, 0], [1, 0, 0]])

    def test_by_the_words_and_twice_is_the_web_again(self):
        for web in [web for size in range(5) for web in all_webs(size)] + drawn_webs(range(5, 11)):
            for point in range(len(web)):
                told = turned_web(web, point)
                self.assertEqual(told, turned_by_the_words(web, point))
                self.assertEqual(turned_web(told, point), web)

    def test_what_is_handed_in_stays_and_what_is_told_is_new(self):
        web = [[0, 1], [1, 0]]
        told = turned_web(web, 0)
        for row in told:
            row.clear()
        self.assertEqual(web, [[0, 1], [1, 0]])


class Wheel(unittest.TestCase):
    def test_each_wheel_by_its_order(self):
        for order in permutations(range(6)):
            self.assertIs(is_wheel(wheel_by(order), list(order)), True)

    def test_all_orders_of_one_wheel(self):
        wheel = wheel_by([2, 0, 4, 1, 5, 3])
        fitting = [order for order in permutations(range(6)) if wheel_by(order) == wheel]
        self.assertEqual(len(fitting), 10)
        for order in permutations(range(6)):
            self.assertIs(is_wheel(wheel, list(order)), order in fitting)

    def test_a_wheel_with_one_tie_changed(self):
        order = [0, 1, 2, 3, 4, 5]
        for i, j in permutations(range(6), 2):
            web = wheel_by(order)
            web[i][j] = web[j][i] = 1 - web[i][j]
            for other in permutations(range(6)):
                self.assertIs(is_wheel(web, list(other)), False)

    def test_webs_that_are_none(self):
        for web in drawn_webs((6,), 40):
            wheels = [order for order in permutations(range(6)) if wheel_by(order) == web]
            for order in list(permutations(range(6)))[::5]:
                self.assertIs(is_wheel(web, list(order)), order in wheels)

    def test_orders_that_are_none(self):
        wheel = wheel_by([0, 1, 2, 3, 4, 5])
        for order in (
            [], [0], [0, 1, 2, 3, 4], [1, 2, 3, 4, 5], [0, 1, 2, 3, 4, 5, 0], [0, 1, 2, 3, 4, 5, 6], [0] * 6,
            [0, 1, 2, 3, 4, 4], [0, 1, 2, 3, 4, 6], [0, 1, 2, 3, 4, -1], [-6, 1, 2, 3, 4, 5], [0, 1, 2, 3, 4, FAR],
            [-6, -5, -4, -3, -2, -1], [0, 1, 2, 3, 4, -FAR], list(range(100)), [0, 1, 2, 3, 4, 5] * 2,
        ):
            self.assertIs(is_wheel(wheel, order), False, order)

    def test_short_orders_of_all_kinds(self):
        wheel = wheel_by([0, 1, 2, 3, 4, 5])
        for many in range(5):
            for order in product((-1, 0, 1, 5), repeat=many):
                self.assertIs(is_wheel(wheel, list(order)), False)

    def test_webs_of_other_sizes(self):
        wheel = wheel_by([0, 1, 2, 3, 4, 5])
        for size in (0, 1, 5, 7, 10):
            web = [[wheel[i][j] if max(i, j) < 6 else 0 for j in range(size)] for i in range(size)]
            self.assertIs(is_wheel(web, [0, 1, 2, 3, 4, 5]), False)

    def test_truths_stand_for_no_points(self):
        self.assertIs(is_wheel(wheel_by([0, 1, 2, 3, 4, 5]), [False, True, 2, 3, 4, 5]), False)

    def test_what_is_handed_in_is_not_changed(self):
        web, order = wheel_by([5, 4, 3, 2, 1, 0]), [5, 4, 3, 2, 1, 0]
        is_wheel(web, order)
        self.assertEqual((web, order), (wheel_by([5, 4, 3, 2, 1, 0]), [5, 4, 3, 2, 1, 0]))


class Told(unittest.TestCase):
    def has_word(self, web, told):
        self.assertEqual(told[0], "word")
        self.assertEqual(len(told), 2)
        self.assertEqual(word_told(told[1]), told[1])
        self.assertEqual(set(told[1]), set("abcdef"[:len(web)]))
        self.assertEqual(crossings(told[1]), web)

    def led_to_wheel(self, web, told):
        kind, turns, order = told
        self.assertEqual(kind, "none")
        self.assertLessEqual(len(turns), 200)
        for point in turns:
            web = turned_by_the_words(web, point)
        self.assertEqual(web, wheel_by(order))
        self.assertEqual((turns.__class__, order.__class__, sorted(order)), (list, list, [0, 1, 2, 3, 4, 5]))

    def test_the_web_without_points(self):
        self.assertEqual(told_web([]), ("word", ""))

    def test_every_web_of_at_most_five_points_has_a_word(self):
        for size in range(1, 6):
            for web in all_webs(size):
                self.has_word(web, told_web(web))

    def test_every_web_of_six_points(self):
        without = 0
        for web in all_webs(6):
            told = told_web(web)
            if told[0] == "word":
                self.has_word(web, told)
            else:
                self.led_to_wheel(web, told)
                without += 1
        # 72 wheels, and 60 webs of two triangles tied corner to corner.
        self.assertEqual(without, 132)

    def test_wheels_have_none(self):
        for order in list(permutations(range(6)))[::31]:
            told = told_web(wheel_by(order))
            self.led_to_wheel(wheel_by(order), told)

    def test_from_seven_points_on_too_many(self):
        for size in (7, 8, 9, 10):
            for web in (drawn_web(size, 1), [[0] * size for row in range(size)]):
                with self.assertRaises(TooMany):
                    told_web(web)

    def test_what_is_handed_in_stays_and_what_is_told_is_new(self):
        for web in (wheel_by([0, 1, 2, 3, 4, 5]), turned_by_the_words(wheel_by([0, 1, 2, 3, 4, 5]), 3)):
            before = deepcopy(web)
            told = told_web(web)
            kept = deepcopy(told)
            told[1].append(9)
            told[2].clear()
            self.assertEqual(web, before)
            self.assertEqual(told_web(web), kept)


if __name__ == "__main__":
    unittest.main()
