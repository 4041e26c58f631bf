import random
import unittest

from leftproducts.choices import made_choice
from leftproducts.errors import BadChoice, BadFrame, BadMany
from leftproducts.frames import Frame
from leftproducts.makers import faces_frame, turning_frame, words_frame
from leftproducts.many import Many, many_of
from leftproducts.ones import is_one, one_left
from leftproducts.rows import one_row
from leftproducts.sides import beside
from leftproducts.transfers import left_into, left_many
from tests.books import NO_MANYS
from tests.helpers import (JUNK, all_rows, clean, is_ascending, letters_frame, mixed_frame, other_choice, refused,
                           rows_told, sign, small_frames, spread, untouched, words_up_to)


def one_by_words(many, row):
    """is_one of a row of places, as point 84 tells it."""
    row = clean(row, many.prime)
    if any(many.heights[place] for place in row):
        return False
    if rows_told(many.products, [row], many.prime):
        return False
    places = range(len(many.heights))
    pairs = many.products if many.most > 1 else {}
    for a in places:
        if rows_told(pairs, [row, {a: 1}], many.prime) != {a: 1}:
            return False
        if rows_told(pairs, [{a: 1}, row], many.prime) != clean({a: sign(many.heights[a])}, many.prime):
            return False
    for word in words_up_to(len(many.heights), many.most, 3):
        for k in range(len(word)):
            rows = [{place: 1} for place in word]
            rows[k] = row
            if rows_told(many.products, rows, many.prime):
                return False
    return True


def with_low_places():
    """Frames with places of height -1: for each choice undo of the one may be something."""
    # u of height -1 leads to e; e is the one, or e is no place of its own that is left.
    gone = Frame(3, [-1, 0], {(1, 1): {1: 1}, (0, 1): {0: 1}, (1, 0): {0: 1}}, {0: {1: 1}})
    edge = Frame(5, [-1, 0, 0], {(0, 1): {0: 1}, (1, 0): {0: 1}, (1, 1): {1: 1}, (1, 2): {2: 1}, (2, 1): {2: 1}},
                 {0: {2: 1}})
    return [gone, edge, mixed_frame(edge, 1), mixed_frame(edge, 5)]


def frames():
    return small_frames() + with_low_places() + [Frame(3, [0], {}, {}), Frame(3, [0, 1], {(0, 0): {0: 1}}, {}),
                                                 Frame(5, [0, 1], {(0, 0): {0: 1}, (0, 1): {1: 1}}, {})]


class IsOneTest(unittest.TestCase):
    def test_by_hand(self):
        many = Many(5, [0, 1], 3, {(0, 0): {0: 1}, (0, 1): {1: 1}, (1, 0): {1: 4}})
        self.assertIs(is_one(many, {0: 1}), True)
        for row in ({}, {0: 2}, {0: 4}, {1: 1}, {0: 1, 1: 1}, {0: 0}):
            self.assertIs(is_one(many, row), False)
        # From one side alone, or with the wrong sign.
        self.assertIs(is_one(Many(5, [0, 1], 3, {(0, 0): {0: 1}, (0, 1): {1: 1}}), {0: 1}), False)
        self.assertIs(is_one(Many(5, [0, 1], 3, {(0, 0): {0: 1}, (1, 0): {1: 4}}), {0: 1}), False)
        self.assertIs(is_one(Many(5, [0, 2], 2, {(0, 0): {0: 1}, (0, 1): {1: 1}, (1, 0): {1: 1}}), {0: 1}), True)
        self.assertIs(is_one(Many(2, [0, 1], 2, {(0, 0): {0: 1}, (0, 1): {1: 1}, (1, 0): {1: 1}}), {0: 1}), True)
        # A sum of two places.
        points = many_of(faces_frame(7, [(0,), (1,)]), 3)
        self.assertIs(is_one(many=points, row={0: 1, 1: 1}), True)
        self.assertIs(is_one(points, {0: 8, 1: -6}), True)
        self.assertIs(is_one(points, {0: 1}), False)

    def test_its_product_is_nothing(self):
        many = Many(3, [0, 1], 1, {(0,): {1: 1}})
        self.assertIs(is_one(many, {0: 1}), False)
        # A row that would be a one but for its step: as there is just one, no book of products of two has it.
        for frame in with_low_places():
            many = many_of(frame, 2)
            for row in all_rows(frame.prime, [place for place, height in enumerate(frame.heights) if height == 0]):
                self.assertEqual(is_one(many, row), row == one_row(frame))

    def test_products_of_three_and_more(self):
        letters = {(0, 0): {0: 1}, (0, 1): {1: 1}, (1, 0): {1: 2}, (0, 2): {2: 1}, (2, 0): {2: 1}}
        self.assertIs(is_one(Many(3, [0, 1, 2], 3, {**letters, (1, 1, 1): {2: 1}}), {0: 1}), True)
        self.assertIs(is_one(Many(3, [0, 1, 2], 8, letters), {0: 1}), True)
        # Moved so that a product of three with the one in it comes, at each of its spots.
        rnd = random.Random(1)
        seen = 0
        for frame in (letters_frame(), faces_frame(3, [(0,), (1,), (0, 1)]), words_frame(3, [1], [{}], 3)):
            many = left_many(frame, made_choice(frame), 3)
            one = one_left(frame, made_choice(frame))
            for word in words_up_to(len(many.heights), 3, 3):
                if set(one) & set(word) and rnd.random() < 0.2:
                    for place in range(len(many.heights)):
                        try:
                            other = Many(3, many.heights, 3, {**many.products, word: {place: 1}})
                        except Exception:
                            continue
                        self.assertEqual(is_one(other, one), one_by_words(other, one))
                        seen += word not in many.products and not is_one(other, one)
        # Only words of four and more are free of the rule up to four places.
        many = Many(3, [0, 1], 4, {(0, 0): {0: 1}, (0, 1): {1: 1}, (1, 0): {1: 2}})
        self.assertIs(is_one(many, {0: 1}), True)
        for word in words_up_to(2, 4, 4):
            for place in (0, 1):
                try:
                    other = Many(3, [0, 1], 4, {**many.products, word: {place: 1}})
                except Exception:
                    continue
                self.assertEqual(is_one(other, {0: 1}), one_by_words(other, {0: 1}))
                seen += not is_one(other, {0: 1})
        self.assertGreater(seen, 0)

    def test_by_words(self):
        found = 0
        for frame in frames():
            for many in (many_of(frame, 3), left_many(frame, other_choice(frame, 2), 3), many_of(frame, 1)):
                low = [place for place, height in enumerate(many.heights) if height == 0]
                if many.prime ** len(low) <= 130 and len(many.heights) <= 8:
                    ones = [row for row in all_rows(many.prime, low) if is_one(many, row)]
                    self.assertEqual(ones, [row for row in all_rows(many.prime, low) if one_by_words(many, row)])
                    self.assertLessEqual(len(ones), 1)
                    found += len(ones)
        self.assertGreater(found, 10)

    def test_of_a_frame_it_is_one_row(self):
        for frame in frames():
            one = one_row(frame)
            if one is not None:
                for most in (2, 3, 8):
                    self.assertIs(untouched(self, is_one, many_of(frame, most), one), True)
                self.assertIs(is_one(many_of(frame, 1), one), not frame.heights)

    def test_without_places(self):
        for most in (1, 2, 8):
            self.assertIs(is_one(Many(3, [], most, {}), {}), True)
            self.assertIs(is_one(Many(3, [0], most, {}), {}), False)
            self.assertIs(is_one(Many(3, [1], most, {}), {}), False)

    def test_any_value(self):
        many = Many(5, [0, 1], 3, {(0, 0): {0: 1}, (0, 1): {1: 1}, (1, 0): {1: 4}})
        for junk in JUNK:
            self.assertIs(is_one(many, junk), isinstance(junk, dict) and junk == {0: 1})
        for junk in ({0: True}, {False: 1}, {0: 1.0}, {0.0: 1}, {0: "1"}, {"0": 1}, {0: 1, 2: 0}, {0: 1, -1: 0},
                     ((0, 1),), [(0, 1)], {(0,): 1}, {0: 1, None: 0}):
            self.assertIs(is_one(many, junk), False)
        # Modulo the prime: a number of rest 0 at a place of another height is none.
        for row in ({0: 6}, {0: -4}, {1: 5, 0: 1}, {0: 11, 1: -10}):
            self.assertIs(is_one(many, row), True)
        self.assertIs(is_one(many, {0: 1, 1: 1}), False)

    def test_errors(self):
        for junk in NO_MANYS:
            refused(self, BadMany, "part", None, is_one, junk, None)


class OneLeftTest(unittest.TestCase):
    def test_it_is_a_one_of_what_is_left(self):
        looked, moved = 0, 0
        for frame in frames():
            one = one_row(frame)
            for choice in (made_choice(frame), other_choice(frame, 1), other_choice(frame, 4)):
                left = untouched(self, one_left, frame, choice)
                if one is None:
                    self.assertIsNone(left)
                    continue
                self.assertEqual(left, spread(choice[1], one, frame.prime))
                self.assertTrue(is_ascending(left))
                if spread(choice[2], one, frame.prime):
                    moved += 1
                    continue
                for most in (2, 3):
                    many = left_many(frame, choice, most)
                    self.assertIs(is_one(many, left), True)
                    into = left_into(frame, choice, most)
                    for word in words_up_to(len(many.heights), most, 2):
                        for k in range(len(word)):
                            rows = [{place: 1} for place in word]
                            rows[k] = left
                            self.assertEqual(rows_told(into.rows, rows, frame.prime), {})
                looked += 1
        self.assertGreater(looked, 20)
        self.assertGreater(moved, 2)

    def test_without_places_of_height_below_0(self):
        for frame in frames():
            if -1 not in frame.heights and one_row(frame) is not None:
                for choice in (made_choice(frame), other_choice(frame, 3)):
                    self.assertEqual(spread(choice[2], one_row(frame), frame.prime), {})

    def test_by_hand(self):
        frame = letters_frame()
        within, onto, undo = made_choice(frame)
        self.assertEqual(one_left(frame, (within, onto, undo)), onto[0])
        self.assertEqual(one_left(frame=frame, choice=other_choice(frame, 2)), other_choice(frame, 2)[1][0])
        self.assertIsNone(one_left(Frame(3, [0], {}, {}), made_choice(Frame(3, [0], {}, {}))))
        # Without places {} is the one, and it stays so if nothing is left.
        self.assertEqual(one_left(Frame(3, [], {}, {}), ((), (), ())), {})
        gone = with_low_places()[0]
        self.assertEqual(one_left(gone, made_choice(gone)), {})
        both = beside(turning_frame(5, 1, [{}]), faces_frame(5, [(0,), (1,)]))
        self.assertEqual(len(one_left(both, made_choice(both))), 2)
        # Numbers beyond the prime in the choice.
        raised = (within, tuple({k: number + 3 for k, number in row.items()} for row in onto), undo)
        self.assertEqual(one_left(frame, raised), {0: 1})

    def test_errors(self):
        for junk in (None, 0, True, "x", {}, Frame, Many(3, [1], 2, {})):
            refused(self, BadFrame, "part", None, one_left, junk, None)
        for frame in (letters_frame(), Frame(3, [0], {}, {})):
            for junk in JUNK + (list(made_choice(frame)), made_choice(turning_frame(5, 2, [{}, {}]))):
                refused(self, BadChoice, None, None, one_left, frame, junk)


if __name__ == "__main__":
    unittest.main()
