import unittest

from leftproducts.errors import BadFrame, BadPrime
from leftproducts.frames import Frame
from leftproducts.many import Many
from tests.helpers import JUNK, is_ascending, refused, untouched

PRIMES = (2, 3, 5, 7, 11, 13, 17, 19, 23, 29, 31)


class FrameTest(unittest.TestCase):
    def bad(self, part, prime, heights, product, step):
        refused(self, BadFrame, "part", part, Frame, prime, heights, product, step)

    def test_primes(self):
        for prime in range(-40, 60):
            if prime in PRIMES:
                self.assertEqual(Frame(prime, [], {}, {}).prime, prime)
            else:
                refused(self, BadPrime, None, None, Frame, prime, [], {}, {})
        for junk in (None, True, "3", 3.0, [3], (3,), Frame):
            refused(self, BadPrime, None, None, Frame, junk, [], {}, {})

    def test_heights(self):
        self.assertEqual(Frame(3, [-8, 16], {}, {}).heights, (-8, 16))
        self.assertEqual(Frame(3, (-8, 16), {}, {}), Frame(3, [-8, 16], {}, {}))
        self.assertEqual(len(Frame(3, [1] * 32, {}, {}).heights), 32)
        for heights in ([0] * 33, [-9], [17], [0, True], ["0"], [None], [0.0], None, {}, "ab", 3, {0: 1}):
            self.bad("heights", 3, heights, {}, {})

    def test_product_kinds(self):
        for junk in (None, [], (), 0, True, "ab", [((0, 0), {0: 1})]):
            self.bad("product", 3, [0], junk, {})
        for key in (0, (0,), (0, 0, 0), (0, 1), (1, 0), (-1, 0), (0, True), (False, 0), "00", ("0", 0), None):
            self.bad("product", 3, [0], {key: {}}, {})
        for row in (None, [], 0, [0], {1: 1}, {-1: 1}, {True: 1}, {0: True}, {0: 1.0}, {0: None}, {"0": 1}):
            self.bad("product", 3, [0], {(0, 0): row}, {})
        self.assertEqual(Frame(3, [0], {(0, 0): {}}, {}).product, {})

    def test_product_heights(self):
        self.bad("product", 3, [1, 1], {(0, 0): {1: 1}}, {})
        self.bad("product", 3, [1, 3], {(0, 0): {1: 1}}, {})
        self.assertEqual(Frame(3, [1, 2], {(0, 0): {1: 4}}, {}).product, {(0, 0): {1: 1}})
        # Numbers of rest 0 are no numbers at all.
        self.assertEqual(Frame(3, [1, 1], {(0, 0): {1: 6, 0: -3}}, {}), Frame(3, [1, 1], {}, {}))

    def test_step_kinds(self):
        for junk in (None, [], (), 0, True, "ab"):
            self.bad("step", 3, [0, 1], {}, junk)
        for key in (2, -1, True, (0,), "0", None):
            self.bad("step", 3, [0, 1], {}, {key: {}})
        for row in (None, [], 1, {2: 1}, {1: True}, {True: 1}, {"1": 1}, {1: "1"}, (1,)):
            self.bad("step", 3, [0, 1], {}, {0: row})
        for row in ({0: 1}, {1: 1, 0: 1}):
            self.bad("step", 3, [0, 1], {}, {0: row})
        self.bad("step", 3, [0, 1], {}, {1: {0: 1}})
        self.bad("step", 3, [0, 2], {}, {0: {1: 1}})
        self.assertEqual(Frame(3, [0, 1], {}, {0: {1: -1, 0: 3}, 1: {}}).step, {0: {1: 2}})

    def test_bracket(self):
        # (x x) x is y x, x (x x) is x y.
        self.bad("bracket", 3, [1, 2, 3], {(0, 0): {1: 1}, (0, 1): {2: 1}}, {})
        self.bad("bracket", 3, [1, 2, 3], {(0, 0): {1: 1}, (1, 0): {2: 1}}, {})
        self.bad("bracket", 3, [1, 2, 3], {(0, 0): {1: 1}, (0, 1): {2: 1}, (1, 0): {2: 2}}, {})
        Frame(3, [1, 2, 3], {(0, 0): {1: 1}, (0, 1): {2: 1}, (1, 0): {2: 4}}, {})
        # One of both sides is nothing as the first product in it is.
        self.bad("bracket", 3, [1, 1, 2, 3], {(0, 1): {2: 1}, (2, 0): {3: 1}}, {})
        self.bad("bracket", 3, [1, 1, 2, 3], {(1, 0): {2: 1}, (0, 2): {3: 1}}, {})
        # Only the last of the places breaks it.
        self.bad("bracket", 5, [0, 0], {(0, 0): {0: 1}, (1, 1): {0: 1}}, {})
        Frame(5, [0, 0], {(0, 0): {0: 1}, (1, 1): {1: 1}}, {})

    def test_twice(self):
        self.bad("twice", 3, [0, 1, 2], {}, {0: {1: 1}, 1: {2: 1}})
        self.bad("twice", 5, [0, 1, 1, 2], {}, {0: {1: 1, 2: 1}, 1: {3: 1}, 2: {3: 1}})
        Frame(5, [0, 1, 1, 2], {}, {0: {1: 1, 2: 1}, 1: {3: 1}, 2: {3: -1}})
        Frame(2, [0, 1, 1, 2], {}, {0: {1: 1, 2: 1}, 1: {3: 1}, 2: {3: 1}})

    def test_rule(self):
        # x of height 1, x x is y, the step of w is x: then w x is to have the step of x x, y.
        heights = [0, 1, 1, 2]
        self.bad("rule", 3, heights, {(1, 1): {3: 1}}, {0: {1: 1}})
        self.bad("rule", 3, heights, {(0, 1): {2: 1}, (1, 1): {3: 1}}, {0: {1: 1}, 2: {3: 1}})
        # The sign behind a place of odd height.
        good = {(0, 1): {2: 1}, (1, 0): {2: 2}, (1, 1): {3: 1}}
        Frame(3, heights, good, {0: {1: 1}, 2: {3: 1}})
        self.bad("rule", 3, heights, {**good, (1, 0): {2: 1}}, {0: {1: 1}, 2: {3: 1}})
        # Only the step of the product itself breaks it.
        self.bad("rule", 3, [0, 0, 1], {(0, 0): {1: 1}}, {1: {2: 1}})

    def test_which_error_comes_first(self):
        cases = [(4, "x", 0, 0), (3, "x", 0, 0), (3, [0], 0, 0), (3, [0], {}, 0)]
        refused(self, BadPrime, None, None, Frame, *cases[0])
        for case, part in zip(cases[1:], ("heights", "product", "step")):
            self.bad(part, *case)
        self.bad("step", 3, [1, 2, 3], {(0, 0): {1: 1}, (0, 1): {2: 1}}, {0: {0: 1}})
        steps = {3: {4: 1}, 4: {5: 1}}
        self.bad("bracket", 3, [1, 2, 3, 1, 2, 3], {(0, 0): {1: 1}, (0, 1): {2: 1}}, steps)
        self.bad("twice", 3, [0, 0, 1, 1, 2, 3], {(0, 0): {1: 1}}, {1: {2: 1}, 3: {4: 1}, 4: {5: 1}})

    def test_attributes_are_tidy_and_new(self):
        heights = [1, 2, 0]
        product = {(2, 2): {2: 1}, (0, 0): {1: -1}, (2, 0): {0: 4}, (0, 2): {0: 1, 2: 0}, (2, 1): {1: 1}, (1, 2): {1: 7}}
        step = {1: {}, 0: {1: 3}}
        frame = untouched(self, Frame, 3, heights, product, step)
        told = {(0, 0): {1: 2}, (0, 2): {0: 1}, (1, 2): {1: 1}, (2, 0): {0: 1}, (2, 1): {1: 1}, (2, 2): {2: 1}}
        self.assertEqual(frame.product, told)
        self.assertTrue(is_ascending(frame.product))
        self.assertEqual(frame.step, {})
        self.assertEqual(frame.heights, (1, 2, 0))
        product[0, 0][1] = 0
        heights[0] = 5
        self.assertEqual((frame.product[0, 0], frame.heights), ({1: 2}, (1, 2, 0)))

    def test_rows_ascend(self):
        frame = Frame(5, [0, 1, 1, 1], {}, {0: {3: 1, 1: 2, 2: 3}})
        self.assertEqual(list(frame.step[0].items()), [(1, 2), (2, 3), (3, 1)])
        frame = Frame(5, [1, 2, 2], {(0, 0): {2: 1, 1: 1}}, {})
        self.assertEqual(list(frame.product[0, 0]), [1, 2])

    def test_equal(self):
        def one():
            return Frame(3, [0, 1], {(0, 0): {0: 1}, (0, 1): {1: 1}, (1, 0): {1: 1}}, {})
        self.assertEqual(one(), one())
        self.assertFalse(one() != one())
        unlike = [Frame(5, [0, 1], one().product, {}), Frame(3, [0, 1], {}, {}), Frame(3, [0, 1], {}, {0: {1: 1}}),
                  Frame(3, [0, 3], {}, {})]
        for other in unlike:
            self.assertNotEqual(one(), other)
        self.assertNotEqual(unlike[1], unlike[2])
        self.assertNotEqual(unlike[1], unlike[3])
        for junk in JUNK + (Many(3, [0, 1], 2, {}), (3, (0, 1), {}, {})):
            self.assertFalse(one() == junk)
            self.assertTrue(one() != junk)

    def test_named_parameters(self):
        self.assertEqual(Frame(step={}, product={}, heights=[2], prime=7), Frame(7, [2], {}, {}))

    def test_32_places_of_large_primes(self):
        # Numbers of the powers of one letter, modulo its 32nd power.
        product = {(a, b): {a + b: 1} for a in range(32) for b in range(32 - a)}
        frame = Frame(31, [0] * 32, product, {})
        self.assertEqual(len(frame.product), 32 * 33 // 2)
        product[15, 16] = {31: 2}
        self.bad("bracket", 31, [0] * 32, product, {})


if __name__ == "__main__":
    unittest.main()
