import random
import unittest

from leftproducts.choices import made_choice
from leftproducts.errors import BadFrame, BadMany, BadNumber, BadPrime, BadRow, BadWord, NotFrame
from leftproducts.frames import Frame
from leftproducts.makers import turning_frame
from leftproducts.many import (Many, cut_many, ends, frame_of, many_of, product_row, rows_product, rule_rows)
from leftproducts.transfers import left_many
from tests.helpers import (JUNK, is_ascending, letters_frame, mixed_frame, other_choice, random_row, refused,
                           rows_told, rule_left, small_frames, turn, untouched, words_up_to)

NO_MANYS = (None, 0, True, "x", {}, [], Many, letters_frame())


def books():
    """Books of many products, with and without those of one place, of three and more places, too."""
    found = [many_of(frame, most) for frame in small_frames() for most in (1, 2, 3)]
    for frame in small_frames():
        found += [left_many(frame, made_choice(frame), 3), left_many(frame, other_choice(frame, 1), 4)]
    return found + [Many(3, [1, 2], 5, {(0, 0, 0): {1: 1}}), Many(5, [-64, 64], 8, {}), Many(2, [], 8, {})]


class ManyTest(unittest.TestCase):
    def bad(self, part, *values):
        refused(self, BadMany, "part", part, Many, *values)

    def test_first_errors(self):
        for prime in (1, 4, 32, 37, True, None, "3"):
            refused(self, BadPrime, None, None, Many, prime, None, None, None)
        for heights in (None, 0, {}, "1", [65], [-65], [True], ["1"], [None], [0] * 33):
            self.bad("heights", 3, heights, 0, 0)
        for most in (0, 9, -1, True, None, "2", 2.0):
            refused(self, BadNumber, "part", "most", Many, 3, [0], most, 0)
        self.assertEqual(Many(3, (-64, 64), 1, {}).heights, (-64, 64))
        self.assertEqual(len(Many(3, [0] * 32, 8, {}).heights), 32)

    def test_products_kinds(self):
        for junk in (None, 0, True, "x", [], (), [((0,), {})]):
            self.bad("products", 3, [1, 2], 2, junk)
        for word in ((), (0, 0, 0), (2,), (-1,), (True,), (0, False), 0, "0", None, ("0",), (0.0,)):
            self.bad("products", 3, [1, 2], 2, {word: {}})
        for row in (None, 0, [], (), {2: 0}, {-1: 0}, {True: 1}, {1: True}, {1: "1"}, {1: 1.0}, {"1": 1}):
            self.bad("products", 3, [1, 2], 2, {(0, 0): row})

    def test_products_turns(self):
        # The turn of the product is that of the word and 1.
        self.bad("products", 3, [1, 2], 3, {(0, 0): {0: 1}})
        self.bad("products", 3, [1, 2], 3, {(0, 1): {1: 1}})
        self.bad("products", 3, [1, 2], 3, {(0, 0): {1: 1, 0: 1}})
        self.assertEqual(Many(3, [1, 2], 3, {(0, 0): {1: 4, 0: 3}}).products, {(0, 0): {1: 1}})
        self.assertEqual(Many(3, [1, 2], 3, {(0, 0): {0: 3}, (1,): {}}).products, {})
        self.assertEqual(Many(3, [2, 4], 3, {(0, 0): {}, (0, 0, 0): {}}).products, {})
        self.assertEqual(Many(3, [2, 5], 3, {(0, 0, 0): {1: 1}}).products, {(0, 0, 0): {1: 1}})

    def test_the_rule(self):
        # One place: the step twice; two places: the step of a product; with the signs of turns.
        self.bad("rule", 3, [0, 1, 2], 1, {(0,): {1: 1}, (1,): {2: 1}})
        self.bad("rule", 3, [0, 0, 1], 2, {(0, 0): {1: 1}, (1,): {2: 1}})
        Many(3, [0, 0, 1], 1, {(1,): {2: 1}})
        heights = [0, 1, 1, 2]
        good = {(0,): {1: 1}, (2,): {3: 1}, (0, 1): {2: 1}, (1, 0): {2: 1}, (1, 1): {3: 2}}
        Many(3, heights, 2, good)
        self.bad("rule", 3, heights, 2, {**good, (1, 0): {2: 2}})
        self.bad("rule", 3, heights, 2, {**good, (1, 1): {3: 1}})
        # Three places: brackets; longer ones only if most tells so.
        free = {(0, 0): {1: 1}, (0, 1): {2: 1}}
        Many(3, [1, 2, 3], 2, free)
        self.bad("rule", 3, [1, 2, 3], 3, free)
        Many(3, [1, 2, 3], 3, {**free, (1, 0): {2: 2}})
        self.bad("rule", 3, [1, 2, 3], 3, {**free, (1, 0): {2: 1}})
        # Four places: products of two and of three.
        self.bad("rule", 3, [1, 2, 3], 4, {(0, 0, 0): {1: 1}, (0, 1): {2: 1}})
        Many(3, [1, 2, 3], 3, {(0, 0, 0): {1: 1}, (0, 1): {2: 1}})
        Many(3, [1, 2, 3], 4, {(0, 0, 0): {1: 1}, (0, 1): {2: 1}, (1, 0): {2: 2}})

    def test_the_rule_word_by_word(self):
        rnd = random.Random(4)
        kept = 0
        for _ in range(400):
            prime, most = rnd.choice((2, 3)), rnd.choice((2, 3, 4))
            heights = [rnd.choice((0, 1, 1, 2)) for _ in range(3)]
            words = words_up_to(3, most)
            products = {}
            for _ in range(rnd.choice((1, 2, 3, 4))):
                word = rnd.choice(words)
                places = [k for k in range(3) if heights[k] - 1 == turn(heights, word) + 1]
                products[word] = {k: rnd.randrange(1, 9) for k in places}
            good = not any(rule_left(prime, heights, products, word) for word in words)
            if good:
                kept += bool(Many(prime, heights, most, products).products)
            else:
                self.bad("rule", prime, heights, most, products)
        self.assertGreater(kept, 20)

    def test_attributes(self):
        heights = [2, 1]
        products = {(1, 1, 1): {0: -1}, (1, 1): {0: 2, 1: 6}, (0, 1): {}, (1,): {0: 0}}
        many = untouched(self, Many, 3, heights, 4, products)
        self.assertEqual((many.prime, many.heights, many.most), (3, (2, 1), 4))
        self.assertEqual(list(many.products.items()), [((1, 1), {0: 2}), ((1, 1, 1), {0: 2})])
        products[1, 1][0] = 0
        heights[0] = 0
        self.assertEqual((many.products[1, 1], many.heights), ({0: 2}, (2, 1)))
        wide = Many(3, [1, 2, 2, 2], 2, {(0, 0): {3: 1, 1: 1, 2: 1}})
        self.assertEqual(list(wide.products[0, 0]), [1, 2, 3])
        for book in books():
            self.assertTrue(is_ascending(book.products))

    def test_equal(self):
        def one():
            return Many(3, [1, 2], 2, {(0, 0): {1: 1}})
        self.assertEqual(one(), one())
        self.assertEqual(one(), Many(3, (1, 2), 2, {(0, 0): {1: -2}, (1, 1): {}}))
        for other in (Many(5, [1, 2], 2, {(0, 0): {1: 1}}), Many(3, [1, 2], 3, {(0, 0): {1: 1}}),
                      Many(3, [1, 2], 2, {}), Many(3, [1, 2], 2, {(0, 0): {1: 2}}),
                      Many(3, [1, 2, 0], 2, {(0, 0): {1: 1}})) + JUNK + (letters_frame(),):
            self.assertFalse(one() == other)
            self.assertTrue(one() != other)
        self.assertNotEqual(Many(3, [1, 2], 2, {}), Many(3, [1, 3], 2, {}))

    def test_named_parameters(self):
        self.assertEqual(Many(products={}, most=1, heights=[0], prime=2), Many(2, [0], 1, {}))


class RuleRowsTest(unittest.TestCase):
    def test_word_by_word(self):
        rnd = random.Random(9)
        found = 0
        for _ in range(150):
            prime, length = rnd.choice((2, 3, 31)), rnd.choice((1, 2, 3, 4))
            heights = [rnd.choice((0, 1, 2)) for _ in range(3)]
            products = {}
            for word in words_up_to(3, length):
                if rnd.random() < 0.5:
                    places = [k for k in range(3) if heights[k] - 1 == turn(heights, word) + 1]
                    products[word] = {k: rnd.randrange(-prime, prime) for k in places}
            table = untouched(self, rule_rows, prime, heights, products, length)
            self.assertTrue(is_ascending(table))
            wanted = {word: rule_left(prime, heights, products, word) for word in words_up_to(3, length, length)}
            self.assertEqual(table, {word: row for word, row in wanted.items() if row})
            found += bool(table)
        self.assertGreater(found, 20)

    def test_by_hand(self):
        free = {(0, 0): {1: 1}, (0, 1): {2: 1}}
        # (x x) x, and x (x x) with no sign as x has the turn 0.
        self.assertEqual(rule_rows(3, [1, 2, 3], free, 3), {(0, 0, 0): {2: 1}})
        self.assertEqual(rule_rows(3, [1, 2, 3], free, 2), {})
        self.assertEqual(rule_rows(3, [1, 2, 3], free, 4), {})
        # u of the odd turn -1: minus.
        self.assertEqual(rule_rows(5, [0, 0, 1], {(2,): {}, (0, 1): {0: 1}, (1,): {2: 1}, (0, 2): {2: 1}}, 2),
                         {(0, 1): {2: 4}})
        self.assertEqual(rule_rows(2, [1, 2, 3], {(0,) * 8: {1: 1}, (0,) * 7 + (1,): {2: 1}}, 15), {(0,) * 15: {2: 1}})

    def test_errors(self):
        for prime in (0, 6, True, None):
            refused(self, BadPrime, None, None, rule_rows, prime, None, None, None)
        for heights in (None, [65], [True], [0] * 33):
            refused(self, BadMany, "part", "heights", rule_rows, 3, heights, None, None)
        for length in (0, 16, -1, True, None, "2"):
            refused(self, BadNumber, "part", "length", rule_rows, 3, [1], None, length)
        for products in (None, [], {(): {}}, {(0, 0, 0): {}}, {(0,): {0: 1}}, {(1,): {}}, {(0,): None}):
            refused(self, BadMany, "part", "products", rule_rows, 3, [1], products, 2)
        self.assertEqual(rule_rows(length=2, products={(0, 0): {0: 3}}, heights=[1], prime=3), {})


class ProductsTest(unittest.TestCase):
    def test_product_row(self):
        for many in books():
            for word in words_up_to(len(many.heights), min(many.most, 3)):
                self.assertEqual(product_row(many, word), many.products.get(word, {}))
        many = Many(3, [1, 2], 2, {(0, 0): {1: 1}})
        product_row(many, (0, 0))[1] = 2
        product_row(many, (0, 1))[1] = 2
        self.assertEqual(many, Many(3, [1, 2], 2, {(0, 0): {1: 1}}))
        self.assertEqual(product_row(word=(0, 0), many=many), {1: 1})

    def test_product_row_errors(self):
        many = Many(3, [1, 2], 2, {(0, 0): {1: 1}})
        for junk in NO_MANYS:
            refused(self, BadMany, "part", None, product_row, junk, None)
        for word in ((), (0, 0, 0), (2,), (-1,), (True,), [0], 0, None, "0", (0.0,), ((0,),), {0: 1}):
            refused(self, BadWord, None, None, product_row, many, word)

    def test_rows_product(self):
        rnd = random.Random(6)
        for many in books():
            size = len(many.heights)
            for length in range(1, many.most + 1):
                rows = [random_row(rnd, many.prime, size) for _ in range(length)]
                told = untouched(self, rows_product, many, rows)
                self.assertEqual(told, rows_told(many.products, rows, many.prime))
                self.assertEqual(rows_product(many, tuple(rows)), told)
                self.assertTrue(is_ascending(told))

    def test_rows_product_by_hand(self):
        many = Many(5, [0, 1, 1], 2, {(0, 0): {0: 1}, (0, 1): {1: 1}, (0, 2): {2: 1}, (1, 0): {1: 4}, (2, 0): {2: 4}})
        self.assertEqual(rows_product(many, [{0: 2, 1: 1}, {0: 3, 2: 1}]), {0: 1, 1: 2, 2: 2})
        self.assertEqual(rows_product(many, [{0: 2}]), {})
        self.assertEqual(rows_product(many=many, rows=[{}, {0: 3}]), {})

    def test_rows_product_errors(self):
        many = Many(3, [1, 2], 2, {(0, 0): {1: 1}})
        for junk in NO_MANYS:
            refused(self, BadMany, "part", None, rows_product, junk, None)
        for rows in (None, 0, {}, "ab", [], (), [{}] * 3, [None], [{}, None], [[]], [{2: 1}], [{-1: 1}], [{True: 1}],
                     [{0: True}], [{0: 1}, {0: "1"}], {0: {}}):
            refused(self, BadRow, None, None, rows_product, many, rows)


class EndsTest(unittest.TestCase):
    def test_word_by_word(self):
        told = {True: 0, False: 0}
        for many in books():
            if len(many.heights) ** (2 * many.most - 1) < 3000:
                words = words_up_to(len(many.heights), 2 * many.most - 1)
                good = not any(rule_left(many.prime, many.heights, many.products, word) for word in words)
                self.assertIs(ends(many), good)
                told[good] += 1
        self.assertGreater(told[True], 10)

    def test_by_hand(self):
        free = Many(3, [1, 2, 3], 2, {(0, 0): {1: 1}, (0, 1): {2: 1}})
        self.assertIs(ends(free), False)
        self.assertIs(ends(Many(3, [1, 2, 3], 2, {(0, 0): {1: 1}, (0, 1): {2: 1}, (1, 0): {2: 2}})), True)
        # The longest words that may break the rule have 2 * most - 1 places.
        heights = [1, 2, 3]
        self.assertIs(ends(Many(3, heights, 3, {(0, 0, 0): {1: 1}, (0, 0, 1): {2: 1}})), False)
        self.assertIs(ends(Many(3, heights, 3, {(0, 0, 0): {1: 1}, (0, 1): {2: 1}})), False)
        self.assertIs(ends(Many(3, [1, 2], 8, {(0,) * 8: {1: 1}})), True)
        self.assertIs(ends(Many(3, heights, 8, {(0,) * 8: {1: 1}, (0,) * 7 + (1,): {2: 1}})), False)
        self.assertIs(ends(Many(3, [0, 1], 1, {(0,): {1: 1}})), True)
        for junk in NO_MANYS:
            refused(self, BadMany, "part", None, ends, junk)
        self.assertIs(ends(many=free), False)


class CutManyTest(unittest.TestCase):
    def test_cut(self):
        for many in books():
            for length in range(1, many.most + 1):
                wanted = {word: row for word, row in many.products.items() if len(word) <= length}
                self.assertEqual(cut_many(many, length), Many(many.prime, many.heights, length, wanted))
        many = Many(3, [1, 2], 5, {(0, 0, 0): {1: 1}, (0, 0): {1: 2}})
        self.assertEqual(cut_many(length=2, many=many), Many(3, [1, 2], 2, {(0, 0): {1: 2}}))
        cut_many(many, 5).products[0, 0][1] = 0
        self.assertEqual(many.products[0, 0], {1: 2})

    def test_errors(self):
        many = Many(3, [1, 2], 3, {})
        for junk in NO_MANYS:
            refused(self, BadMany, "part", None, cut_many, junk, None)
        for length in (0, 4, -1, True, None, "1", 1.0):
            refused(self, BadNumber, "part", "length", cut_many, many, length)


class FrameAndManyTest(unittest.TestCase):
    def test_by_hand(self):
        # (-1) ** the height of the first place.
        frame = Frame(5, [0, 1, 1, 2], {(0, 1): {2: 1}, (1, 0): {2: -1}, (1, 1): {3: 1}}, {0: {1: 1}, 2: {3: 1}})
        products = {(0,): {1: 1}, (2,): {3: 1}, (0, 1): {2: 1}, (1, 0): {2: 1}, (1, 1): {3: 4}}
        self.assertEqual(many_of(frame, 2), Many(5, [0, 1, 1, 2], 2, products))
        self.assertEqual(many_of(frame, 8), Many(5, [0, 1, 1, 2], 8, products))
        self.assertEqual(many_of(frame, 1), Many(5, [0, 1, 1, 2], 1, {(0,): {1: 1}, (2,): {3: 1}}))

    def test_there_and_back(self):
        for frame in small_frames() + [turning_frame(31, 5, [{}, {}, {(0, 1): 1}, {(0, 2): 5}, {}])]:
            for mixed in (frame, mixed_frame(frame, 7)):
                for most in (2, 3, 8):
                    many = untouched(self, many_of, mixed, most)
                    self.assertIs(ends(many), True)
                    self.assertEqual(frame_of(many), mixed)
                self.assertIs(ends(many_of(mixed, 1)), True)

    def test_any_that_ends_comes_from_a_frame(self):
        rnd = random.Random(13)
        found = 0
        for _ in range(600):
            prime, heights = rnd.choice((2, 3)), [rnd.choice((-1, 0, 0, 1)) for _ in range(3)]
            products = {}
            for _ in range(rnd.choice((1, 2, 3, 4))):
                word = rnd.choice(words_up_to(3, 2))
                places = [k for k in range(3) if heights[k] - 1 == turn(heights, word) + 1]
                products[word] = {k: rnd.randrange(1, 3) for k in places}
            try:
                many = Many(prime, heights, 2, products)
            except BadMany:
                continue
            if ends(many):
                self.assertEqual(many_of(frame_of(many), 2), many)
                found += bool(many.products)
            else:
                refused(self, NotFrame, None, None, frame_of, many)
        self.assertGreater(found, 30)

    def test_many_of_errors(self):
        for junk in (None, 0, True, "x", {}, Frame, Many(3, [], 1, {})):
            refused(self, BadFrame, "part", None, many_of, junk, None)
        for most in (0, 9, -1, True, None, "2", 2.0):
            refused(self, BadNumber, "part", "most", many_of, letters_frame(), most)
        self.assertEqual(many_of(most=1, frame=Frame(3, [], {}, {})), Many(3, [], 1, {}))

    def test_frame_of_errors(self):
        for junk in NO_MANYS:
            refused(self, BadMany, "part", None, frame_of, junk)
        for many in (Many(3, [], 1, {}), Many(3, [1, 2], 5, {(0, 0, 0): {1: 1}}), Many(3, [99 - 35], 1, {}),
                     Many(3, [1, 2, 3], 2, {(0, 0): {1: 1}, (0, 1): {2: 1}}),
                     Many(3, [1, 2, 20], 5, {(0, 0, 0): {1: 1}})):
            refused(self, NotFrame, None, None, frame_of, many)
        for heights in ([17], [-9], [0, 64], [-64, 1]):
            refused(self, BadFrame, "part", "heights", frame_of, Many(3, heights, 2, {}))
        self.assertEqual(frame_of(many=Many(3, [16, -8], 2, {})), Frame(3, [16, -8], {}, {}))


if __name__ == "__main__":
    unittest.main()
