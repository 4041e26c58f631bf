import unittest
from itertools import combinations

from leftproducts.errors import BadFrame, BadNumber, BadPrime, BadTable, TooMany
from leftproducts.frames import Frame
from leftproducts.leftovers import left_sizes
from leftproducts.makers import faces_frame, turning_frame, words_frame
from leftproducts.rows import one_row
from tests.helpers import refused, untouched


class TurningFrameTest(unittest.TestCase):
    def table(self, letters, steps, prime=3):
        refused(self, BadTable, None, None, turning_frame, prime, letters, steps)

    def test_by_hand(self):
        frame = turning_frame(3, 2, [{}, {}])
        product = {(0, 0): {0: 1}, (0, 1): {1: 1}, (1, 0): {1: 1}, (0, 2): {2: 1}, (2, 0): {2: 1}, (0, 3): {3: 1},
                   (3, 0): {3: 1}, (1, 2): {3: 1}, (2, 1): {3: 2}}
        self.assertEqual(frame, Frame(3, [0, 1, 1, 2], product, {}))
        self.assertEqual(turning_frame(5, 0, []), Frame(5, [0], {(0, 0): {0: 1}}, {}))
        frame = turning_frame(7, 3, ({}, {(0, 2): -1}, {}))
        self.assertEqual(frame.heights, (0, 1, 1, 1, 2, 2, 2, 3))
        # Places 4, 5, 6 are the lots (0, 1), (0, 2), (1, 2).
        self.assertEqual(frame.step, {2: {5: 6}})
        self.assertEqual(frame.product[6, 1], {7: 1})
        self.assertEqual(frame.product[2, 5], {7: 6})

    def test_steps_go_on_by_the_rule(self):
        frame = turning_frame(5, 4, [{}, {}, {(0, 1): 2}, {}])
        lots = [lot for many in range(5) for lot in combinations(range(4), many)]
        at = {lot: k for k, lot in enumerate(lots)}
        self.assertEqual(frame.step[at[2,]], {at[0, 1]: 2})
        self.assertEqual(frame.step[at[2, 3]], {at[0, 1, 3]: 2})
        self.assertNotIn(at[0, 2], frame.step)
        other = turning_frame(5, 4, [{}, {}, {(0, 1): 2}, {(0, 1): 1}])
        # Of 2 3: that of 2 times 3, less 2 times that of 3.
        self.assertEqual(other.step[at[2, 3]], {at[0, 1, 3]: 2, at[0, 1, 2]: 4})

    def test_all_of_five_letters(self):
        for prime in (2, 31):
            frame = turning_frame(prime, 5, [{}, {}, {(0, 1): 1}, {(0, 2): 1}, {(0, 3): 1}])
            self.assertEqual(len(frame.heights), 32)
            lots = [lot for many in range(6) for lot in combinations(range(5), many)]
            self.assertEqual(frame.heights, tuple(len(lot) for lot in lots))
            for a, one in enumerate(lots):
                for b, other in enumerate(lots):
                    if set(one) & set(other):
                        self.assertNotIn((a, b), frame.product)
                    else:
                        number = (-1) ** sum(x > y for x in one for y in other) % prime
                        self.assertEqual(frame.product[a, b], {lots.index(tuple(sorted(one + other))): number})

    def test_errors(self):
        refused(self, BadPrime, None, None, turning_frame, 1, None, None)
        for letters in (-1, 6, True, None, "2", 2.0):
            refused(self, BadNumber, "part", "letters", turning_frame, 3, letters, None)
        for steps in (None, {}, 0, "ab", [], [{}], [{}, {}, {}], [{}, []], [{}, None], [{}, ()]):
            self.table(2, steps)
        for key in ((1, 0), (0, 0), (0, 2), (-1, 0), (0,), (0, 1, 1), 0, "01", (0, True), (False, 1), None):
            self.table(2, [{}, {key: 1}])
            self.table(2, [{key: 0}, {}])
        for number in (True, None, "1", 1.0):
            self.table(2, [{(0, 1): number}, {}])

    def test_twice(self):
        # The step of 1 is 0 3, of 3 it is 1 2: twice it is less 0 1 2.
        steps = [{}, {(0, 3): 1}, {}, {(1, 2): 1}]
        refused(self, BadFrame, "part", "twice", turning_frame, 3, 4, steps)
        turning_frame(3, 4, [{}, {(0, 3): 3}, {}, {(1, 2): 1}])

    def test_given_values_stay(self):
        untouched(self, turning_frame, 3, 3, [{}, {}, {(0, 1): -4}])
        frame = turning_frame(steps=[{}], letters=1, prime=2)
        self.assertEqual(frame.heights, (0, 1))


class FacesFrameTest(unittest.TestCase):
    def test_by_hand(self):
        frame = faces_frame(3, [(0, 1), (1,), (0,)])
        product = {(0, 0): {0: 1}, (1, 1): {1: 1}, (0, 2): {2: 1}, (2, 1): {2: 1}}
        self.assertEqual(frame, Frame(3, [0, 0, 1], product, {0: {2: -1}, 1: {2: 1}}))
        self.assertEqual(faces_frame(2, []), Frame(2, [], {}, {}))
        self.assertEqual(faces_frame(2, ((5,),)), Frame(2, [0], {(0, 0): {0: 1}}, {}))

    def test_a_full_triangle(self):
        faces = [(0,), (2,), (4,), (0, 2), (0, 4), (2, 4), (0, 2, 4)]
        frame = faces_frame(7, list(reversed(faces)))
        self.assertEqual(frame.heights, (0, 0, 0, 1, 1, 1, 2))
        self.assertEqual(frame.step, {0: {3: 6, 4: 6}, 1: {3: 1, 5: 6}, 2: {4: 1, 5: 1}, 3: {6: 1}, 4: {6: 6}, 5: {6: 1}})
        for a, one in enumerate(faces):
            for b, other in enumerate(faces):
                both = one + other[1:]
                wanted = {faces.index(both): 1} if one[-1] == other[0] and both in faces else None
                self.assertEqual(frame.product.get((a, b)), wanted)
        self.assertEqual(left_sizes(frame), {0: 1})

    def test_hollow_frames(self):
        hollow = [face for many in (1, 2, 3) for face in combinations(range(4), many)]
        self.assertEqual(left_sizes(faces_frame(5, hollow)), {0: 1, 2: 1})
        self.assertEqual(one_row(faces_frame(5, hollow)), {0: 1, 1: 1, 2: 1, 3: 1})
        most = [face for many in (1, 2, 3, 4, 5) for face in combinations(range(5), many)]
        self.assertEqual(left_sizes(faces_frame(31, most)), {0: 1})
        wide = [(k,) for k in range(6)] + list(combinations(range(6), 2)) + list(combinations(range(5), 3)) + [(0, 1, 5)]
        self.assertEqual(len(faces_frame(3, wide).heights), 32)
        refused(self, BadTable, None, None, faces_frame, 3, wide + [(0, 2, 5)])

    def test_errors(self):
        refused(self, BadPrime, None, None, faces_frame, 33, None)
        wrong = [None, 0, {}, "ab", {(0,): 1}, [()], [0], [[0]], ["0"], [None], [(6,)], [(-1,)], [(True,)], [("0",)],
                 [(0,), (0,)], [(0,), (1,), (1, 0)], [(0,), (0, 0)], [(0,), (0, 1)], [(1,), (0, 1)], [(0, 1)],
                 [(0,), (1,), (2,), (0, 1), (1, 2), (0, 1, 2)], [(0,), (1,), (2,), (0, 2), (1, 2), (0, 1, 2)],
                 [(0,), (1,), (2,), (0, 1), (0, 2), (0, 1, 2)], [(0,), (1,), (1,), (0, 1)]]
        for faces in wrong:
            refused(self, BadTable, None, None, faces_frame, 3, faces)

    def test_given_values_stay(self):
        untouched(self, faces_frame, 3, [(1,), (0,)])
        self.assertEqual(faces_frame(faces=[(0,)], prime=2).heights, (0,))


class WordsFrameTest(unittest.TestCase):
    def test_by_hand(self):
        frame = words_frame(5, [1], [{(0, 0): 2}], 3)
        product = {(a, b): {a + b: 1} for a in range(4) for b in range(4 - a)}
        self.assertEqual(frame, Frame(5, [0, 1, 2, 3], product, {1: {2: 2}, 3: {}}))
        frame = words_frame(3, (0, 1), ({(1,): 1}, {}), 2)
        # (), x, y, x x, x y, y x, y y: the step of x x is y x and x y.
        self.assertEqual(frame.heights, (0, 0, 1, 0, 1, 1, 2))
        self.assertEqual(frame.step, {1: {2: 1}, 3: {4: 1, 5: 1}, 4: {6: 1}, 5: {6: 2}})
        self.assertEqual(frame.product[1, 2], {4: 1})
        self.assertEqual(frame.product[2, 1], {5: 1})
        self.assertNotIn((1, 3), frame.product)
        self.assertEqual(words_frame(3, [], [], 4), Frame(3, [0], {(0, 0): {0: 1}}, {}))
        self.assertEqual(words_frame(3, [3, 0], [{}, {}], 0), Frame(3, [0], {(0, 0): {0: 1}}, {}))

    def test_longer_words_are_nothing(self):
        frame = words_frame(7, [1, 1], [{}, {(0, 0): 3}], 3)
        words = [(), (0,), (1,)]
        words += [(a, b) for a in (0, 1) for b in (0, 1)] + [(a, b, c) for a in (0, 1) for b in (0, 1) for c in (0, 1)]
        self.assertEqual(frame.heights, tuple(len(word) for word in words))
        at = {word: k for k, word in enumerate(words)}
        self.assertEqual(frame.step[at[1,]], {at[0, 0]: 3})
        self.assertEqual(frame.step[at[0, 1]], {at[0, 0, 0]: 4})
        self.assertEqual(frame.step[at[1, 0]], {at[0, 0, 0]: 3})
        self.assertEqual(frame.step[at[1, 1]], {at[0, 0, 1]: 3, at[1, 0, 0]: 4})
        self.assertNotIn(at[1, 1, 0], frame.step)
        for one in words:
            for other in words:
                wanted = {at[one + other]: 1} if one + other in at else None
                self.assertEqual(frame.product.get((at[one], at[other])), wanted)

    def test_errors(self):
        refused(self, BadPrime, None, None, words_frame, 0, None, None, None)
        for heights in (None, 1, {}, "1", [0] * 4, [4], [-1], [True], ["1"], [None]):
            refused(self, BadTable, None, None, words_frame, 3, heights, None, None)
        for most in (None, True, -1, 5, "2", 2.0, [2]):
            refused(self, BadNumber, "part", "most", words_frame, 3, [1], None, most)
        for steps in (None, {}, 1, [], [{}, {}], [[]], [None], [()]):
            refused(self, BadTable, None, None, words_frame, 3, [1], steps, 2)
        for word in ((), (0,), (0, 0, 0), (1,), (-1, 0), (0, True), [0], 0, "00", None):
            if not isinstance(word, list):
                refused(self, BadTable, None, None, words_frame, 3, [1], [{word: 1}], 4)
                refused(self, BadTable, None, None, words_frame, 3, [1], [{word: 0}], 4)
        refused(self, BadTable, None, None, words_frame, 3, [1], [{(0, 0): 1}], 1)
        for number in (True, None, "1"):
            refused(self, BadTable, None, None, words_frame, 3, [1], [{(0, 0): number}], 2)
        refused(self, BadTable, None, None, words_frame, 3, [0, 1], [{}, {(1,): 1}], 2)

    def test_too_many(self):
        refused(self, TooMany, "most", 32, words_frame, 3, [0, 0, 0], [{}, {}, {}], 3)
        self.assertEqual(len(words_frame(3, [0, 1, 3], [{}, {}, {}], 2).heights), 13)
        self.assertEqual(len(words_frame(3, [0, 1], [{}, {}], 4).heights), 31)
        # TooMany comes behind BadTable and ahead of BadFrame.
        refused(self, BadTable, None, None, words_frame, 3, [0, 0, 0], [{}, {}, None], 3)
        steps = [{(1,): 1}, {(2,): 1}, {}]
        refused(self, TooMany, "most", 32, words_frame, 3, [0, 1, 2], steps, 3)
        refused(self, BadFrame, "part", "twice", words_frame, 3, [0, 1, 2], steps, 2)

    def test_twice_counts_words_that_are_not_too_long(self):
        # The step of x is x y: twice it is x y y.
        steps = [{(0, 1): 1}, {}]
        refused(self, BadFrame, "part", "twice", words_frame, 3, [1, 1], steps, 3)
        self.assertEqual(len(words_frame(3, [1, 1], steps, 2).heights), 7)

    def test_given_values_stay(self):
        untouched(self, words_frame, 3, [1], [{(0, 0): 4}], 2)
        self.assertEqual(words_frame(most=1, steps=[{}], heights=[3], prime=2).heights, (0, 3))


if __name__ == "__main__":
    unittest.main()
