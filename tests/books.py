"""Books of many products that the tests share: with products of one to four places, over several primes."""

import random

from leftproducts.choices import made_choice
from leftproducts.frames import Frame
from leftproducts.many import Many, many_of
from leftproducts.moves import moved_many
from leftproducts.transfers import left_many
from tests.helpers import letters_frame, random_rows, turn, words_up_to

NO_MANYS = (None, 0, True, "x", {}, [], (), Many, letters_frame())


def random_table(rnd, many, share=0.7):
    """Rows for moved_many: those of words of one place can be undone, the longer ones are any that fit."""
    firsts, _ = random_rows(rnd, many.prime, many.heights)
    rows = {(place,): row for place, row in enumerate(firsts)}
    for word in words_up_to(len(many.heights), many.most, 2):
        places = [k for k, height in enumerate(many.heights) if height - 1 == turn(many.heights, word)]
        if places and rnd.random() < share:
            rows[word] = {rnd.choice(places): rnd.randrange(1, 2 * many.prime)}
    return rows


def moved(many, seed, share=0.7):
    return moved_many(many, many.heights, random_table(random.Random(seed), many, share))


def some_books():
    frame = letters_frame()
    return [left_many(frame, made_choice(frame), 3), many_of(Frame(3, [0, 1], {}, {0: {1: 1}}), 3),
            Many(3, [1, 1, 2], 4, {(0, 0, 1): {2: 1}, (1, 0): {2: 2}}), Many(2, [0, 1], 3, {}),
            Many(5, [0, 0, 1], 3, {(0, 0): {0: 1}, (0, 1): {1: 1}, (0, 2): {2: 1}, (1, 0): {1: 1}, (2, 0): {2: 4}}),
            many_of(Frame(3, [1, 2, 2], {(0, 0): {1: 1}}, {0: {2: 1}}), 3),
            many_of(Frame(5, [0, 1, 1, 2], {(0, 1): {2: 1}, (1, 0): {2: -1}, (1, 1): {3: 1}},
                          {0: {1: 1}, 2: {3: 1}}), 4)]


def plain_least_books():
    """Some of them with products of one length alone."""
    letters = letters_frame()
    return [
        left_many(letters, made_choice(letters), 4),
        Many(2, [1, 2], 4, {(0, 0, 0, 0): {1: 1}}),
        Many(3, [1, 2], 5, {(0, 0, 0): {1: 1}}),
        Many(5, [1, 1, 2], 4, {(0, 0, 1): {2: 1}, (1, 1, 0): {2: 2}}),
        Many(3, [1, 1, 2, 2], 4, {(0, 1): {2: 1}, (1, 0): {3: 1}, (0, 0, 0, 0): {3: 1}}),
        Many(2, [0, 1], 4, {(0, 0): {0: 1}, (0, 1): {1: 1}, (1, 0): {1: 1}}),
        Many(7, [0, 0, 1], 3, {(0, 0): {0: 1}, (0, 1): {1: 1}, (0, 2): {2: 1}, (1, 0): {1: 1}, (2, 0): {2: 6}}),
        Many(2, [1, 1, 1, 2], 4, {(0, 1): {3: 1}, (2, 2): {3: 1}}),
        Many(3, [2, 3, 3, 4, 5], 4, {(0, 0): {3: 1}, (0, 1): {4: 1}, (1, 0): {4: 2}}),
        Many(2, [1, 1, 2, 2, 2], 5, {(0, 0, 1): {2: 1}, (1, 1, 1, 1): {3: 1}, (1, 0): {4: 1}}),
        Many(3, [0, 1], 2, {(0, 0): {0: 1}, (0, 1): {1: 1}}),
        Many(5, [3, -2, 3], 1, {}),
        Many(2, [], 4, {}),
    ]


def least_books():
    """The same, and moved ones: with longer products than before, and mixed places."""
    books = plain_least_books()
    return books + [moved(many, seed).other for many in books[:10] for seed in (1, 2)]


def two_level_book(seed):
    """A book with any products of two to four places of height 1, all of them of places of height 2: these
    have no products, so it keeps the rule whatever they are. Two of place 0 multiply to nothing."""
    rnd = random.Random(seed)
    prime, low, high = rnd.choice((2, 2, 3, 3, 5)), rnd.choice((1, 2, 2)), rnd.choice((1, 2, 3))
    products = {}
    for word in words_up_to(low, 4, 2):
        if word != (0, 0) and rnd.random() < (0.4 if len(word) == 2 else 0.6):
            products[word] = {low + k: rnd.randrange(prime) for k in range(high)}
    return Many(prime, [1] * low + [2] * high, 4, products)


def one_road_book(seed):
    """A book where x, y, z, t, places 0 to 3, have a doubtful product of four in which all comes in: two
    places for h, three for k, one for l, and all their products, which end in places without products."""
    rnd = random.Random(seed)
    prime = rnd.choice((2, 3, 3))
    h, k, l, u, v, w = (4, 5), (6, 7, 8), (9,), (10, 11), (12, 13), (16, 17, 18)
    turns = [1, 2, 4, 16] + [3] * 2 + [6] * 3 + [20] + [8] * 2 + [23] * 2 + [7, 22] + [24] * 3
    ways = [((0, 1, 2), u), ((1, 2, 3), v), ((0, 1, 2, 3), w), ((14, 3), w), ((0, 15), w), ((1, l[0]), v),
            ((0, 1, l[0]), w)]
    for place in h:
        ways += [((place, 2), u), ((place, 2, 3), w), ((place, l[0]), w)]
    for place in k:
        ways += [((0, place), u), ((place, 3), v), ((0, place, 3), w)]
    products = {word: {place: rnd.randrange(prime) for place in places if rnd.random() < 0.6}
                for word, places in ways if rnd.random() < 0.7}
    return Many(prime, [turn + 1 for turn in turns], 4, products)


def hidden_three(prime=3):
    """A frame that leaves x, y of the heights 1, 2: two of x multiply to nothing, three of them to y."""
    return Frame(prime, [1, 1, 2, 2], {(0, 0): {2: 1}, (0, 1): {3: 1}}, {1: {2: 1}})
