import random
import unittest
from itertools import product as pairs_of

from leftproducts.errors import BadFrame, BadRow
from leftproducts.frames import Frame
from leftproducts.leftovers import is_left, is_made, left_sizes
from leftproducts.makers import faces_frame, turning_frame, words_frame
from leftproducts.rows import multiplied, stepped
from tests.helpers import (circle_frame, clean, is_ascending, letters_frame, mixed_frame, random_row, refused,
                           small_frames, three_points, untouched)


def counted_sizes(frame):
    """left_sizes by counting all rows of each height."""
    sizes = {}
    for height in sorted(set(frame.heights)):
        places = [k for k, level in enumerate(frame.heights) if level == height]
        below = [k for k, level in enumerate(frame.heights) if level == height - 1]
        rows = [dict(zip(places, numbers)) for numbers in pairs_of(range(frame.prime), repeat=len(places))]
        lower = [dict(zip(below, numbers)) for numbers in pairs_of(range(frame.prime), repeat=len(below))]
        left = sum(not stepped(frame, row) for row in rows)
        made = len({tuple(stepped(frame, row).items()) for row in lower})
        size = 0
        while made * frame.prime ** size < left:
            size += 1
        if size:
            sizes[height] = size
    return sizes


class LeftoversTest(unittest.TestCase):
    def test_sizes_by_hand(self):
        self.assertEqual(left_sizes(letters_frame()), {0: 1, 1: 2, 2: 2, 3: 1})
        self.assertEqual(left_sizes(circle_frame()), {0: 1, 1: 1})
        self.assertEqual(left_sizes(three_points()), {0: 2})
        self.assertEqual(left_sizes(Frame(3, [], {}, {})), {})
        self.assertEqual(left_sizes(Frame(3, [5, 4], {}, {1: {0: 2}})), {})
        self.assertEqual(left_sizes(Frame(3, [5, 4, 5, -8], {}, {1: {0: 2}})), {-8: 1, 5: 1})
        self.assertEqual(list(left_sizes(Frame(3, [16, -8, 2, -8], {}, {})).items()), [(-8, 2), (2, 1), (16, 1)])
        self.assertEqual(left_sizes(turning_frame(3, 5, [{}] * 5)), {0: 1, 1: 5, 2: 10, 3: 10, 4: 5, 5: 1})
        self.assertEqual(left_sizes(words_frame(5, [1], [{(0, 0): 2}], 4)), {0: 1})
        self.assertEqual(left_sizes(words_frame(5, [1], [{(0, 0): 2}], 3)), {0: 1, 3: 1})

    def test_the_prime_matters(self):
        # A step by 2 is nothing for the prime 2.
        self.assertEqual(left_sizes(Frame(2, [0, 1], {}, {0: {1: 2}})), {0: 1, 1: 1})
        self.assertEqual(left_sizes(Frame(3, [0, 1], {}, {0: {1: 2}})), {})

    def test_sizes_by_counting(self):
        frames = [frame for frame in small_frames() if frame.prime < 4]
        frames += [Frame(2, [0, 0, 0, 1, 1, 1], {}, {0: {3: 1, 4: 1}, 1: {4: 1, 5: 1}, 2: {3: 1, 5: 1}})]
        for frame in frames:
            self.assertEqual(left_sizes(frame), counted_sizes(frame))
            self.assertTrue(is_ascending(left_sizes(frame)))

    def test_sizes_stay_if_told_by_other_rows(self):
        big = turning_frame(31, 5, [{}, {}, {(0, 1): 1}, {(0, 2): 5}, {}])
        for frame in small_frames() + [big]:
            self.assertEqual(left_sizes(mixed_frame(frame, 4)), left_sizes(frame))

    def test_left_and_made_by_hand(self):
        frame = letters_frame()
        for row, left, made in (({}, True, True), ({3: 1}, False, False), ({3: 3}, True, True), ({4: 1}, True, True),
                                ({4: -5}, True, True), ({5: 1}, True, False), ({4: 1, 5: 1}, True, False),
                                ({4: 1, 5: 3}, True, True), ({0: 1}, True, False), ({3: 1, 4: 1}, False, False)):
            self.assertIs(is_left(frame, row), left)
            self.assertIs(is_made(frame, row), made)

    def test_left_and_made_by_counting(self):
        for frame in (circle_frame(2), faces_frame(3, [(0,), (1,), (2,), (0, 1), (1, 2)]), mixed_frame(circle_frame(2), 3)):
            size = len(frame.heights)
            rows = [clean(dict(enumerate(numbers)), frame.prime)
                    for numbers in pairs_of(range(frame.prime), repeat=size)]
            steps = [stepped(frame, row) for row in rows]
            for row in rows:
                self.assertIs(is_made(frame, row), row in steps)
                self.assertIs(is_left(frame, row), not stepped(frame, row))

    def test_products_of_what_is_left(self):
        rnd = random.Random(2)
        for frame in small_frames():
            size = len(frame.heights)
            rows = [random_row(rnd, frame.prime, size) for _ in range(30)]
            rows += [stepped(frame, row) for row in rows] + [{k: 1} for k in range(size)]
            left = [row for row in rows if is_left(frame, row)]
            for one in left[:20]:
                for other in left:
                    both = multiplied(frame, one, other)
                    self.assertTrue(is_left(frame, both))
                    if is_made(frame, one) or is_made(frame, other):
                        self.assertTrue(is_made(frame, both))

    def test_errors(self):
        frame = letters_frame()
        for junk in (None, 0, True, "x", {}, Frame):
            refused(self, BadFrame, "part", None, left_sizes, junk)
            refused(self, BadFrame, "part", None, is_left, junk, None)
            refused(self, BadFrame, "part", None, is_made, junk, None)
        for junk in (None, 0, True, "x", [], (), {8: 1}, {-1: 0}, {True: 1}, {0: True}, {0: "1"}, {"0": 1}):
            refused(self, BadRow, None, None, is_left, frame, junk)
            refused(self, BadRow, None, None, is_made, frame, junk)

    def test_given_values_stay(self):
        frame = letters_frame()
        untouched(self, is_left, frame, {3: 7, 1: -1})
        untouched(self, is_made, frame, {4: 7, 1: 3})
        sizes = left_sizes(frame=frame)
        sizes[0] = 9
        self.assertEqual(left_sizes(frame)[0], 1)
        self.assertIs(is_left(row={}, frame=frame), True)
        self.assertIs(is_made(row={}, frame=frame), True)


if __name__ == "__main__":
    unittest.main()
