import random
import unittest

from leftproducts.choices import made_choice
from leftproducts.errors import BadMany, BadWord
from leftproducts.frames import Frame
from leftproducts.makers import faces_frame, turning_frame
from leftproducts.many import Many, many_of
from leftproducts.shuffles import shuffles, turns_round
from leftproducts.sides import turned
from leftproducts.transfers import left_into, left_many
from tests.bigwords import shuffles_by_spots
from tests.books import NO_MANYS, some_books, two_level_book
from tests.helpers import (clean, letters_frame, mixed_frame, other_choice, plus, refused, small_frames, untouched,
                           words_up_to)


def together(products, heights, one, other, prime):
    """The products of all shuffles of two words, times their numbers."""
    total = {}
    for word, number in shuffles_by_spots(heights, one, other).items():
        plus(total, products.get(word, {}), number)
    return clean(total, prime)


def round_by_words(many):
    """turns_round, as point 83 tells it."""
    words = words_up_to(len(many.heights), many.most - 1)
    return not any(together(many.products, many.heights, one, other, many.prime)
                   for one in words for other in words if len(one) + len(other) <= many.most)


def frames():
    """Frames that turn round, and ones that do not."""
    plain = Frame(3, [1, 1, 2], {(0, 1): {2: 1}, (1, 0): {2: 2}}, {})
    squares = Frame(5, [2, 2, 4], {(0, 1): {2: 1}, (1, 0): {2: 1}, (0, 0): {2: 3}}, {})
    return small_frames() + [plain, mixed_frame(plain, 1), squares, Frame(3, [1, 2], {(0, 0): {1: 1}}, {}),
                             Frame(2, [1, 2], {(0, 0): {1: 1}}, {}), Frame(2, [1, 1, 2], {(0, 1): {2: 1}}, {}),
                             Frame(5, [-2, 2, 0], {(0, 1): {2: 1}, (1, 0): {2: 1}}, {}),
                             Frame(5, [-1, 1, 0], {(0, 1): {2: 1}, (1, 0): {2: 4}}, {}),
                             Frame(5, [-1, 1, 0], {(0, 1): {2: 1}, (1, 0): {2: 1}}, {}),
                             turning_frame(7, 4, [{}, {}, {(0, 1): 1}, {(0, 2): 1}]), faces_frame(2, [(0,), (1,)]),
                             turned(faces_frame(5, [(0,), (1,), (0, 1)]))]


class ShufflesTest(unittest.TestCase):
    def test_by_hand(self):
        self.assertEqual(shuffles([1, 2], (0,), (1,)), {(0, 1): 1, (1, 0): 1})
        self.assertEqual(shuffles([2], (0,), (0,)), {})
        self.assertEqual(shuffles([1], (0,), (0,)), {(0, 0): 2})
        self.assertEqual(shuffles([2, 0], (0,), (1,)), {(0, 1): 1, (1, 0): -1})
        self.assertEqual(shuffles([1], (0,) * 2, (0,) * 3), {(0,) * 5: 10})
        self.assertEqual(shuffles([2], (0,) * 2, (0,) * 2), {(0,) * 4: 2})
        self.assertEqual(shuffles([1, 1, 2], (0, 2), (2,)), {(2, 0, 2): -1})
        self.assertEqual(shuffles(heights=(2, 2, 2), one=(0, 1), other=(2,)),
                         {(0, 1, 2): 1, (0, 2, 1): -1, (2, 0, 1): 1})

    def test_words_of_no_place(self):
        self.assertEqual(shuffles([], (), ()), {(): 1})
        self.assertEqual(shuffles([0, 2], (), (1, 0, 1)), {(1, 0, 1): 1})
        self.assertEqual(shuffles([0, 2], (1, 0, 1), ()), {(1, 0, 1): 1})

    def test_by_spots(self):
        rnd = random.Random(2)
        for _ in range(150):
            heights = [rnd.randrange(-64, 65) for _ in range(rnd.randrange(1, 5))]
            one, other = (tuple(rnd.randrange(len(heights)) for _ in range(rnd.randrange(5))) for _ in range(2))
            told = untouched(self, shuffles, heights, one, other)
            self.assertEqual(told, shuffles_by_spots(heights, one, other))
            self.assertEqual(list(told), sorted(told))
            self.assertNotIn(0, told.values())

    def test_words_of_eight(self):
        one, other = tuple(range(8)), tuple(range(8, 16))
        told = shuffles([1, 2] * 8, one, other)
        self.assertEqual(len(told), 12870)
        self.assertEqual(told, shuffles_by_spots([1, 2] * 8, one, other))
        self.assertEqual(list(told), sorted(told))
        # Numbers are not taken modulo a prime.
        self.assertEqual(shuffles([1], (0,) * 8, (0,) * 8), {(0,) * 16: 12870})
        self.assertEqual(shuffles([0], (0,) * 8, (0,) * 8), {(0,) * 16: 70})
        self.assertEqual(shuffles([0], (0,) * 7, (0,) * 7), {})

    def test_bracket_and_turn(self):
        # The shuffles of two words are those the other way round, with the sign of going past.
        rnd = random.Random(3)
        for _ in range(40):
            heights = [rnd.randrange(-3, 4) for _ in range(3)]
            one, other = (tuple(rnd.randrange(3) for _ in range(rnd.randrange(4))) for _ in range(2))
            turn = sum(heights[k] - 1 for k in one) * sum(heights[k] - 1 for k in other)
            back = {word: (-1) ** (turn % 2) * number for word, number in shuffles(heights, other, one).items()}
            self.assertEqual(shuffles(heights, one, other), back)

    def test_errors(self):
        for heights in (None, 0, {}, "1", [65], [-65], [True], ["1"], [0] * 33):
            refused(self, BadMany, "part", "heights", shuffles, heights, None, None)
        for junk in (None, 0, "0", [0], [], {}, (2,), (-1,), (True,), ("0",), (0.0,), (0,) * 9, ((0,),)):
            refused(self, BadWord, None, None, shuffles, [1, 1], junk, ())
            refused(self, BadWord, None, None, shuffles, [1, 1], (), junk)
        refused(self, BadWord, None, None, shuffles, [], (0,), ())


class TurnsRoundTest(unittest.TestCase):
    def test_exactly_if_turned_is_the_frame(self):
        both = {True: 0, False: 0}
        for frame in frames():
            wanted = turned(frame) == frame
            for most in (2, 3, 5):
                self.assertIs(untouched(self, turns_round, many_of(frame, most)), wanted)
            both[wanted] += 1
        self.assertGreater(min(both.values()), 5)

    def test_by_words(self):
        both = {True: 0, False: 0}
        books = [many_of(frame, 2) for frame in frames()] + [two_level_book(seed) for seed in range(20)]
        books += [many for many in some_books() if len(many.heights) < 5]
        books += [left_many(frame, other_choice(frame, 1), 3) for frame in frames()]
        for many in books:
            if len(many.heights) ** many.most <= 300:
                self.assertIs(turns_round(many), round_by_words(many))
                both[turns_round(many)] += 1
        self.assertGreater(min(both.values()), 10)

    def test_for_all_choices(self):
        longer = 0
        for frame in frames():
            if turned(frame) == frame:
                for choice in (made_choice(frame), other_choice(frame, 1), other_choice(frame, 2)):
                    many = left_many(frame, choice, 4)
                    self.assertIs(turns_round(many), True)
                    longer += any(len(word) > 2 for word in many.products)
                    into = left_into(frame, choice, 3)
                    words = words_up_to(len(many.heights), 2)
                    for one in words:
                        for other in words:
                            if len(one) + len(other) <= 3:
                                self.assertEqual(together(into.rows, many.heights, one, other, frame.prime), {})
        self.assertGreater(longer, 5)

    def test_one_number_more(self):
        # Each number of a product of two or three leftovers is needed.
        frame = letters_frame()
        many = left_many(frame, made_choice(frame), 3)
        self.assertIs(turns_round(many), True)
        changed = 0
        for word in sorted(many.products):
            for place in many.products[word]:
                products = {**many.products, word: {**many.products[word], place: many.products[word][place] + 1}}
                try:
                    other = Many(3, many.heights, 3, products)
                except BadMany:
                    continue
                self.assertIs(turns_round(other), round_by_words(other))
                changed += 1
        self.assertGreater(changed, 2)
        for extra in ({(1, 1, 1): {3: 1}}, {(1, 2): {3: 1}}, {(2, 2, 1): {3: 1}}):
            bare = Many(3, [0, 1, 1, 2], 3, extra)
            self.assertIs(turns_round(bare), round_by_words(bare))

    def test_by_hand(self):
        # Of even turn: x shuffled with x x is x x x three times.
        for prime, wanted in ((2, False), (3, True), (5, False)):
            self.assertIs(turns_round(Many(prime, [1, 2], 3, {(0, 0, 0): {1: 1}})), wanted)
        # x shuffled with x is x x twice.
        self.assertIs(turns_round(Many(2, [1, 2], 3, {(0, 0): {1: 1}})), True)
        self.assertIs(turns_round(Many(3, [1, 2], 3, {(0, 0): {1: 1}})), False)
        # Products of one do not count.
        self.assertIs(turns_round(Many(3, [0, 1], 3, {(0,): {1: 1}})), True)
        self.assertIs(turns_round(Many(3, [0, 1], 1, {(0,): {1: 1}})), True)
        self.assertIs(turns_round(many=Many(3, [], 8, {})), True)
        # Of odd turn, two of one place are shuffled to nothing.
        self.assertIs(turns_round(Many(3, [2, 4], 2, {(0, 0): {1: 1}})), True)
        # Words of up to most places, not of most alone.
        self.assertIs(turns_round(Many(5, [1, 2], 8, {(0, 0): {1: 1}})), False)
        self.assertIs(turns_round(Many(31, [1] * 31 + [2], 8, {(0,) * 8: {31: 1}})), False)

    def test_errors(self):
        for junk in NO_MANYS:
            refused(self, BadMany, "part", None, turns_round, junk)


if __name__ == "__main__":
    unittest.main()
