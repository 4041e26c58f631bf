import random
import unittest

from leftproducts.errors import BadFrame, BadNumber, BadRow
from leftproducts.frames import Frame
from leftproducts.makers import turning_frame
from leftproducts.rows import added, heights_of, multiplied, one_row, stepped
from tests.helpers import (clean, frame_product, frame_step, is_ascending, letters_frame, mixed_frame, plus,
                           random_row, refused, small_frames, untouched)

NO_FRAMES = (None, True, 0, "frame", (), {}, [], Frame)
NO_ROWS = (None, True, 0, "row", (), [], [0], {8: 1}, {-1: 1}, {True: 1}, {0: True}, {0: "1"}, {"0": 1}, {0: 1.0},
           {(0,): 1}, {None: 1}, {0: None})


class RowsTest(unittest.TestCase):
    def setUp(self):
        self.frame = letters_frame()
        self.rnd = random.Random(5)

    def test_what_is_no_frame(self):
        for junk in NO_FRAMES:
            refused(self, BadFrame, "part", None, multiplied, junk, None, None)
            refused(self, BadFrame, "part", None, stepped, junk, None)
            refused(self, BadFrame, "part", None, added, junk, None, None, None)
            refused(self, BadFrame, "part", None, heights_of, junk, None)
            refused(self, BadFrame, "part", None, one_row, junk)

    def test_what_is_no_row(self):
        for junk in NO_ROWS:
            for good in ({}, {7: 1}):
                refused(self, BadRow, None, None, multiplied, self.frame, junk, good)
                refused(self, BadRow, None, None, multiplied, self.frame, good, junk)
                refused(self, BadRow, None, None, added, self.frame, junk, good, 1)
                refused(self, BadRow, None, None, added, self.frame, good, junk, 1)
            refused(self, BadRow, None, None, stepped, self.frame, junk)
            refused(self, BadRow, None, None, heights_of, self.frame, junk)
            refused(self, BadRow, None, None, added, self.frame, {}, junk, None)

    def test_times_of_added(self):
        for junk in (None, True, False, "1", 1.0, [1], {}):
            refused(self, BadNumber, "part", "times", added, self.frame, {}, {}, junk)

    def test_products_by_hand(self):
        # Places 1, 2, 3 are letters, 4 to 6 the pairs (0, 1), (0, 2), (1, 2), 7 is all three.
        self.assertEqual(multiplied(self.frame, {1: 1}, {2: 1}), {4: 1})
        self.assertEqual(multiplied(self.frame, {2: 1}, {1: 1}), {4: 2})
        self.assertEqual(multiplied(self.frame, {1: 1}, {1: 1}), {})
        self.assertEqual(multiplied(self.frame, {1: 1, 2: 1}, {2: 1, 3: -2}), {4: 1, 5: 1, 6: 1})
        self.assertEqual(multiplied(self.frame, {0: 2}, {7: 2}), {7: 1})
        self.assertEqual(multiplied(self.frame, {0: 3}, {7: 1}), {})

    def test_steps_by_hand(self):
        self.assertEqual(stepped(self.frame, {3: 1}), {4: 1})
        self.assertEqual(stepped(self.frame, {3: -1, 0: 5, 7: 1}), {4: 2})
        self.assertEqual(stepped(self.frame, {3: 3}), {})

    def test_added_by_hand(self):
        self.assertEqual(added(self.frame, {2: 1, 0: 1}, {1: 1, 0: 1}, -1), {1: 2, 2: 1})
        self.assertEqual(added(self.frame, {0: 1}, {1: 5}, 0), {0: 1})
        self.assertEqual(list(added(self.frame, {7: 4}, {3: 1}, 7).items()), [(3, 1), (7, 1)])

    def test_any_rows(self):
        for frame in small_frames() + [turning_frame(31, 5, [{}, {}, {(0, 1): 1}, {(0, 2): 30}, {}])]:
            size = len(frame.heights)
            for _ in range(10):
                one, other = random_row(self.rnd, frame.prime, size), random_row(self.rnd, frame.prime, size)
                times = self.rnd.randrange(-99, 99)
                product = untouched(self, multiplied, frame, one, other)
                self.assertEqual(product, frame_product(frame, one, other))
                step = untouched(self, stepped, frame, one)
                self.assertEqual(step, frame_step(frame, one))
                total = dict(one)
                plus(total, other, times)
                both = untouched(self, added, frame, one, other, times)
                self.assertEqual(both, clean(total, frame.prime))
                self.assertTrue(is_ascending(product) and is_ascending(step) and is_ascending(both))

    def test_heights_of(self):
        self.assertEqual(heights_of(self.frame, {}), ())
        self.assertEqual(heights_of(self.frame, {7: 1, 1: 1, 0: 2}), (0, 1, 3))
        self.assertEqual(heights_of(self.frame, {2: 1, 1: 1}), (1,))
        self.assertEqual(heights_of(self.frame, {7: 3, 1: -1}), (1,))
        self.assertEqual(heights_of(Frame(2, [4, -8, 4], {}, {}), {0: 1, 1: 1, 2: 1}), (-8, 4))

    def test_one_row(self):
        self.assertEqual(one_row(self.frame), {0: 1})
        self.assertEqual(one_row(Frame(3, [], {}, {})), {})
        self.assertIsNone(one_row(Frame(3, [0], {}, {})))
        # One from the left alone, or from the right alone, is none.
        left = {(0, 0): {0: 1}, (0, 1): {1: 1}}
        right = {(0, 0): {0: 1}, (1, 0): {1: 1}}
        self.assertIsNone(one_row(Frame(3, [0, 1], left, {})))
        self.assertIsNone(one_row(Frame(3, [0, 1], right, {})))
        self.assertEqual(one_row(Frame(3, [0, 1], {**left, **right}, {})), {0: 1})
        self.assertIsNone(one_row(Frame(3, [0, 0], {(0, 0): {0: 1}, (0, 1): {1: 1}}, {})))
        self.assertIsNone(one_row(Frame(3, [0, 0], {(0, 0): {0: 1}, (1, 0): {1: 1}}, {})))
        almost = {(0, 0): {0: 1}, (0, 1): {1: 1}, (1, 0): {1: 1}, (0, 2): {2: 1}}
        self.assertIsNone(one_row(Frame(3, [0, 0, 0], almost, {})))
        self.assertEqual(one_row(Frame(3, [0, 0, 0], {**almost, (2, 0): {2: 1}}, {})), {0: 1})
        self.assertEqual(one_row(Frame(7, [0], {(0, 0): {0: 3}}, {})), {0: 5})
        two_points = Frame(5, [0, 0], {(0, 0): {0: 1}, (1, 1): {1: 2}}, {})
        self.assertEqual(list(one_row(two_points).items()), [(0, 1), (1, 3)])

    def test_one_row_leaves_all_and_its_step_is_nothing(self):
        for frame in small_frames():
            for seed in range(3):
                mixed = mixed_frame(frame, seed)
                one = one_row(mixed)
                self.assertTrue(is_ascending(one))
                self.assertEqual(stepped(mixed, one), {})
                for place in range(len(mixed.heights)):
                    self.assertEqual(multiplied(mixed, one, {place: 1}), {place: 1})
                    self.assertEqual(multiplied(mixed, {place: 1}, one), {place: 1})

    def test_returned_rows_are_new(self):
        stepped(self.frame, {3: 1})[4] = 2
        multiplied(self.frame, {1: 1}, {2: 1})[4] = 2
        one_row(self.frame)[0] = 2
        row = {0: 1}
        self.assertIsNot(added(self.frame, row, {}, 1), row)
        self.assertEqual(self.frame, letters_frame())

    def test_named_parameters(self):
        self.assertEqual(multiplied(other={2: 1}, one={1: 1}, frame=self.frame), {4: 1})
        self.assertEqual(stepped(row={3: 1}, frame=self.frame), {4: 1})
        self.assertEqual(added(times=2, other={1: 1}, one={}, frame=self.frame), {1: 2})
        self.assertEqual(heights_of(row={3: 1}, frame=self.frame), (1,))
        self.assertEqual(one_row(frame=self.frame), {0: 1})


if __name__ == "__main__":
    unittest.main()
