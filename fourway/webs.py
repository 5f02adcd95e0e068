"""Webs turned at points, the wheel, and the ring word that has a web as its crossings, where there is one."""

from fourway.errors import TooMany
from fourway.pivots import turned_at
from fourway.ranks import are_whole
from fourway.tables import copied, ones_in, part_at
from fourway.texts import SMALL_LETTERS

MOST_POINTS = 6
WHEEL = (
    (0, 1, 1, 1, 1, 1),
    (1, 0, 1, 0, 0, 1),
    (1, 1, 0, 1, 0, 0),
    (1, 0, 1, 0, 1, 0),
    (1, 0, 0, 1, 0, 1),
    (1, 1, 0, 0, 1, 0),
)


def turned_web(web, point):
    return turned_at(web, point)


def is_wheel(web, order):
    if not are_whole(order) or sorted(order) != list(range(len(WHEEL))) or len(web) != len(WHEEL):
        return False
    return part_at(web, order) == copied(WHEEL)


def told_web(web):
    if len(web) > MOST_POINTS:
        raise TooMany("words are told for webs of at most six points")
    word = word_with(web)
    return ("word", word) if word is not None else led_to_wheel(web)


def word_with(web):
    # The ring has no beginning: a word that has the web may as well begin with its first letter.
    return grown_word(web, "aa") if len(web) > 0 else ""


def grown_word(web, word):
    if len(word) == 2 * len(web):
        return word
    for longer in longer_words(web, word):
        found = grown_word(web, longer)
        if found is not None:
            return found
    return None


def longer_words(web, word):
    point = len(word) // 2
    letter = SMALL_LETTERS[point]
    words = []
    for start in range(1, len(word) + 1):
        for stop in range(start, len(word) + 1):
            stretch = word[start:stop]
            if crossed_by(stretch, point) == web[point][:point]:
                words.append(word[:start] + letter + stretch + letter + word[stop:])
    return words


def crossed_by(stretch, many):
    return [1 if stretch.count(letter) == 1 else 0 for letter in SMALL_LETTERS[:many]]


def led_to_wheel(web):
    # Of all webs of six points, those without a word are wheels or come to be wheels by one turn: the tests go
    # through every one of them.
    for turns in [[]] + [[point] for point in range(len(web))]:
        order = wheel_order(turned_by(web, turns))
        if order is not None:
            return ("none", turns, order)
    return None


def turned_by(web, turns):
    turned = web
    for point in turns:
        turned = turned_at(turned, point)
    return turned


def wheel_order(web):
    for point in range(len(web)):
        order = walk_from(web, point)
        if is_wheel(web, order):
            return order
    return None


def walk_from(web, hub):
    # From the middle of a wheel to its ring, and along the ring as long as there are new points.
    order = [hub]
    near = ones_in(web[hub])
    while near:
        order.append(near[0])
        near = [point for point in ones_in(web[near[0]]) if point not in order]
    return order
