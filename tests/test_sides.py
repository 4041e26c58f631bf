import random
import unittest

from leftproducts.errors import BadFrame, BadTable, TooMany
from leftproducts.frames import Frame
from leftproducts.leftovers import is_left, left_sizes
from leftproducts.makers import faces_frame, turning_frame, words_frame
from leftproducts.rows import multiplied, one_row, stepped
from leftproducts.sides import beside, plain_part, renamed, turned
from tests.helpers import letters_frame, refused, sign, small_frames, untouched


class TurnedTest(unittest.TestCase):
    def test_by_hand(self):
        frame = Frame(3, [1, 1, 2, 2, 3], {(0, 1): {2: 1}, (3, 0): {4: 1}}, {})
        self.assertEqual(turned(frame), Frame(3, [1, 1, 2, 2, 3], {(1, 0): {2: 2}, (0, 3): {4: 1}}, {}))

    def test_twice_is_the_frame(self):
        for frame in small_frames() + [turning_frame(31, 5, [{}, {}, {(0, 1): 1}, {(1, 2): 7}, {}])]:
            about = untouched(self, turned, frame)
            self.assertEqual(turned(about), frame)
            self.assertEqual(about.step, frame.step)
            self.assertEqual(about.heights, frame.heights)
            for a, one in enumerate(frame.heights):
                for b, other in enumerate(frame.heights):
                    row = frame.product.get((b, a), {})
                    wanted = {k: sign(one * other) * number % frame.prime for k, number in row.items()}
                    self.assertEqual(about.product.get((a, b), {}), wanted)

    def test_letters_stay_and_faces_do_not(self):
        self.assertEqual(turned(letters_frame()), letters_frame())
        edge = faces_frame(3, [(0,), (1,), (0, 1)])
        self.assertNotEqual(turned(edge), edge)

    def test_errors(self):
        for junk in (None, 0, True, "x", {}, Frame):
            refused(self, BadFrame, "part", None, turned, junk)


class BesideTest(unittest.TestCase):
    def test_by_the_rules(self):
        rnd = random.Random(3)
        frames = [frame for frame in small_frames() if len(frame.heights) <= 4]
        frames += [words_frame(3, [1], [{(0, 0): 1}], 2), Frame(3, [-1, 0], {}, {0: {1: 2}}),
                   faces_frame(3, [(0,), (1,), (0, 1)]), faces_frame(5, [(0,), (1,), (0, 1)])]
        for one in frames:
            for other in frames:
                if one.prime == other.prime:
                    self.look(one, other, beside(one, other), rnd)

    def look(self, one, other, both, rnd):
        size = len(other.heights)
        self.assertEqual(both.heights, tuple(height + more for height in one.heights for more in other.heights))
        for _ in range(20 if both.heights else 0):
            a, c = rnd.randrange(len(one.heights)), rnd.randrange(len(one.heights))
            b, d = rnd.randrange(size), rnd.randrange(size)
            left, right = one.product.get((a, c), {}), other.product.get((b, d), {})
            number = sign(other.heights[b] * one.heights[c])
            wanted = {i * size + j: number * n * m % one.prime for i, n in left.items() for j, m in right.items()}
            self.assertEqual(both.product.get((a * size + b, c * size + d), {}), wanted)
            wanted = {i * size + b: n for i, n in one.step.get(a, {}).items()}
            for j, n in other.step.get(b, {}).items():
                wanted[a * size + j] = sign(one.heights[a]) * n % one.prime
            self.assertEqual(both.step.get(a * size + b, {}), wanted)

    def test_letters_beside_letters(self):
        one, other = turning_frame(3, 1, [{}]), turning_frame(3, 1, [{}])
        self.assertEqual(beside(one, other).heights, (0, 1, 1, 2))
        # The letter of one and that of the other turn when they pass one another.
        both = beside(one, other)
        self.assertEqual(both.product[2, 1], {3: 1})
        self.assertEqual(both.product[1, 2], {3: 2})

    def test_what_is_left_beside_what_is_left(self):
        one, other = letters_frame(), faces_frame(3, [(0,), (1,), (0, 1)])
        both = untouched(self, beside, one, other)
        size = len(other.heights)
        for row in ({1: 1}, {0: 2, 4: 1}, {3: 1}, {7: 1, 1: 2}):
            for more in ({0: 1, 1: 1}, {2: 1}, {0: 1}):
                pair = {i * size + j: n * m % 3 for i, n in row.items() for j, m in more.items()}
                if is_left(one, row) and is_left(other, more):
                    self.assertTrue(is_left(both, pair))
        sizes = {}
        for i, n in left_sizes(one).items():
            for j, m in left_sizes(other).items():
                sizes[i + j] = sizes.get(i + j, 0) + n * m
        self.assertEqual(left_sizes(both), sizes)
        ones = {i * size + j: n * m % 3 for i, n in one_row(one).items() for j, m in one_row(other).items()}
        self.assertEqual(one_row(both), ones)

    def test_errors(self):
        frame = letters_frame()
        for junk in (None, 0, True, "x", {}, Frame):
            refused(self, BadFrame, "part", None, beside, junk, frame)
            refused(self, BadFrame, "part", None, beside, frame, junk)
        refused(self, BadFrame, "part", "prime", beside, frame, Frame(5, [0] * 32, {}, {}))
        refused(self, BadFrame, "part", "prime", beside, Frame(5, [16], {}, {}), Frame(3, [16], {}, {}))

    def test_limits(self):
        eight, four, five = Frame(3, [0] * 8, {}, {}), Frame(3, [0] * 4, {}, {}), Frame(3, [0] * 5, {}, {})
        self.assertEqual(len(beside(eight, four).heights), 32)
        refused(self, TooMany, "most", 32, beside, eight, five)
        refused(self, TooMany, "most", 32, beside, five, eight)
        refused(self, TooMany, "most", 32, beside, Frame(3, [0] * 3, {}, {}), Frame(3, [0] * 11, {}, {}))
        refused(self, TooMany, "most", 32, beside, Frame(3, [0] * 32, {}, {}), Frame(3, [0] * 2, {}, {}))
        self.assertEqual(beside(Frame(3, [0] * 32, {}, {}), Frame(3, [], {}, {})), Frame(3, [], {}, {}))
        self.assertEqual(beside(Frame(3, [-8, 9], {}, {}), Frame(3, [0, 7], {}, {})).heights, (-8, -1, 9, 16))
        refused(self, BadFrame, "part", "heights", beside, Frame(3, [10], {}, {}), Frame(3, [7], {}, {}))
        refused(self, BadFrame, "part", "heights", beside, Frame(3, [-4], {}, {}), Frame(3, [-5], {}, {}))
        # TooMany comes last.
        refused(self, BadFrame, "part", "heights", beside, Frame(3, [8] * 8, {}, {}), Frame(3, [9] * 5, {}, {}))
        refused(self, BadFrame, "part", "heights", beside, Frame(3, [-4] * 8, {}, {}), Frame(3, [-5] * 5, {}, {}))
        refused(self, TooMany, "most", 32, beside, Frame(3, [8] * 8, {}, {}), Frame(3, [8] * 5, {}, {}))
        refused(self, TooMany, "most", 32, beside, Frame(3, [-4] * 8, {}, {}), Frame(3, [-4] * 5, {}, {}))

    def test_named_parameters(self):
        one, other = Frame(3, [0], {}, {}), Frame(3, [1, 2], {}, {})
        self.assertEqual(beside(other=other, one=one).heights, (1, 2))


class RenamedTest(unittest.TestCase):
    def test_by_hand(self):
        frame = Frame(3, [0, 1, 2, 2], {(1, 1): {2: 1, 3: 2}}, {1: {3: 1}})
        # Place 3 becomes 0, 0 becomes 1, 1 becomes 2, 2 becomes 3.
        wanted = Frame(3, [2, 0, 1, 2], {(2, 2): {3: 1, 0: 2}}, {2: {0: 1}})
        self.assertEqual(renamed(frame, [3, 0, 1, 2]), wanted)
        self.assertEqual(renamed(frame, (3, 0, 1, 2)), wanted)

    def test_there_and_back(self):
        rnd = random.Random(8)
        for frame in small_frames():
            order = list(range(len(frame.heights)))
            rnd.shuffle(order)
            other = untouched(self, renamed, frame, order)
            self.assertEqual(left_sizes(other), left_sizes(frame))
            self.assertEqual(renamed(other, [order.index(k) for k in range(len(order))]), frame)
            for k, place in enumerate(order):
                self.assertEqual(other.heights[k], frame.heights[place])
                for j, place_too in enumerate(order):
                    row = multiplied(other, {k: 1}, {j: 1})
                    wanted = multiplied(frame, {place: 1}, {place_too: 1})
                    self.assertEqual({order[i]: number for i, number in row.items()}, wanted)
                row = stepped(other, {k: 1})
                self.assertEqual({order[i]: number for i, number in row.items()}, stepped(frame, {place: 1}))

    def test_errors(self):
        frame = Frame(3, [0, 1, 2], {}, {})
        for junk in (None, 0, True, "x", {}, Frame):
            refused(self, BadFrame, "part", None, renamed, junk, [0])
        for order in (None, 0, {}, "012", [0, 1], [0, 1, 2, 2], [0, 1, 1], [0, 1, 3], [-1, 0, 1], [0, True, 2],
                      [0, 1, "2"], [0, 1, 2.0], [0, 1, None], {0: 0, 1: 1, 2: 2}, [0, 1, [2]]):
            refused(self, BadTable, None, None, renamed, frame, order)
        self.assertEqual(renamed(order=[0, 1, 2], frame=frame), frame)
        self.assertEqual(renamed(Frame(3, [], {}, {}), []), Frame(3, [], {}, {}))


class PlainPartTest(unittest.TestCase):
    def test_by_hand(self):
        frame = letters_frame()
        # The lots of letters 0 and 1 alone: (), 0, 1, 0 1.
        self.assertEqual(plain_part(frame, (0, 1, 2, 4)), turning_frame(3, 2, [{}, {}]))
        self.assertEqual(plain_part(frame, ()), Frame(3, [], {}, {}))
        self.assertEqual(plain_part(frame, tuple(range(8))), frame)
        self.assertEqual(plain_part(frame, (3, 4, 5, 6, 7)).step, {0: {1: 1}})
        self.assertEqual(plain_part(frame, (1, 5, 7)).heights, (1, 2, 3))

    def test_errors(self):
        frame = letters_frame()
        for junk in (None, 0, True, "x", {}, Frame):
            refused(self, BadFrame, "part", None, plain_part, junk, (0,))
        wrong = [None, 0, {}, "0", [], [0], [0, 1, 2, 4], (1, 0), (0, 0), (8,), (-1,), (True,), ("0",), (0, 1.0),
                 # Steps, then products, that lead to other places.
                 (3,), (0, 3), (1, 2), (0, 1, 2), (2, 5), {0: 1}]
        for places in wrong:
            refused(self, BadTable, None, None, plain_part, frame, places)
        self.assertEqual(plain_part(places=(0,), frame=frame).heights, (0,))
        untouched(self, plain_part, frame, (0, 1))


if __name__ == "__main__":
    unittest.main()
