import random
import unittest

from leftproducts.choices import made_choice
from leftproducts.doubts import doubt_of_four, doubt_of_three
from leftproducts.errors import BadMany, BadRow, TooMany
from leftproducts.many import Many, rows_product
from leftproducts.transfers import left_many
from tests.books import NO_MANYS, least_books, one_road_book, two_level_book
from tests.doubting import at_height, four, many_fine_rows, three
from tests.helpers import (clean, is_ascending, letters_frame, refused, small_frames, spread, untouched)
from tests.test_transfers import four_letters

NO_ROWS = (None, 0, True, "x", [], (), {}, {0: 3}, {True: 1}, {-1: 1}, {9: 1}, {0: True}, {0: 1.0}, {0: "1"}, {None: 1},
           {(0,): 1})


def books(most):
    found = [many for many in least_books() if many.most >= most] + [two_level_book(seed) for seed in range(80)]
    for frame in small_frames() + [four_letters(2), four_letters(3)]:
        choice = made_choice(frame)
        if len(choice[0]) ** most < 1500 or len(frame.heights) == 16 and most == 4 and frame.prime == 2:
            found.append(left_many(frame, choice, most))
    return found


class ByHandTest(unittest.TestCase):
    def test_letters(self):
        frame = letters_frame()
        choice = made_choice(frame)
        many = left_many(frame, choice, 3)
        # x, y: the leftovers whose rows within are the letters 0 and 1, which stand at the places 1 and 2.
        x, y = [clean(choice[1][place], 3) for place in (1, 2)]
        row, doubts = doubt_of_three(many, x, x, y)
        self.assertEqual(doubts, ())
        within = spread(choice[0], row, 3)
        # Place 5 is the lot of the letters 0 and 2.
        self.assertIn(within, ({5: 1}, {5: 2}))

    def test_three(self):
        many = Many(5, [1, 2, 2], 3, {(0, 0, 0): {1: 2}})
        self.assertEqual(doubt_of_three(many, {0: 1}, {0: 1}, {0: 1}), ({1: 2}, ()))
        self.assertEqual(doubt_of_three(many, {0: 3}, {0: 6}, {0: -1, 1: 5}), ({1: 4}, ()))
        self.assertEqual(doubt_of_three(many, {0: 1}, {0: 1}, {1: 1}), ({}, ()))
        # With x x not nothing there is none.
        many = Many(5, [1, 2], 3, {(0, 0): {1: 1}})
        self.assertIsNone(doubt_of_three(many, {0: 1}, {0: 1}, {0: 1}))
        self.assertIsNone(doubt_of_three(many, {0: 1}, {0: 1}, {1: 1}))
        self.assertIsNone(doubt_of_three(many, {1: 1}, {0: 1}, {0: 1}))
        self.assertEqual(doubt_of_three(many, {0: 1}, {1: 1}, {0: 1}), ({}, ()))

    def test_doubts_of_both_sides(self):
        # Heights 1, 2, 3: h, k of height 2 for x, y, z of the heights 1, 2, 1 ahead and behind.
        products = {(2, 1): {3: 1, 4: 1}, (0, 2): {4: 1}, (0, 1, 1): {3: 1}}
        many = Many(3, [1, 1, 1, 2, 2], 3, products)
        row, doubts = doubt_of_three(many, {0: 1}, {1: 1}, {1: 1})
        self.assertEqual(doubts, ({3: 1}, {4: 1}))
        self.assertEqual(row, {})
        many = Many(3, [1, 1, 1, 2, 2], 3, {(2, 1): {3: 1, 4: 1}, (0, 1, 1): {3: 1}})
        self.assertEqual(doubt_of_three(many, {0: 1}, {1: 1}, {1: 1}), ({4: 2}, ({3: 1, 4: 1},)))
        many = Many(3, [1, 1, 1, 2, 2], 3, {(0, 2): {3: 1, 4: 1}, (0, 1, 1): {3: 1}})
        self.assertEqual(doubt_of_three(many, {0: 1}, {1: 1}, {1: 1}), ({4: 2}, ({3: 1, 4: 1},)))

    def test_four(self):
        x = {0: 1}
        many = Many(3, [1, 2], 4, {(0, 0, 0, 0): {1: 2}})
        self.assertEqual(doubt_of_four(many, x, x, x, x), (({1: 2},), ()))
        self.assertEqual(doubt_of_four(many, x, x, x, {0: 2}), (({1: 1},), ()))
        # x x x is not nothing, and no h and k make up for it.
        many = Many(3, [1, 2, 2], 4, {(0, 0, 0, 0): {1: 2}, (0, 0, 0): {2: 1}})
        self.assertEqual(doubt_of_four(many, x, x, x, x), ((), ()))
        self.assertIsNone(doubt_of_four(Many(3, [1, 2], 4, {(0, 0): {1: 1}}), x, x, x, {1: 1}))
        # h or k may make up for it: h x and x k are z, so h and k are - w and nothing, or the like.
        many = Many(2, [1, 1, 2], 4, {(1, 0): {2: 1}, (0, 1): {2: 1}, (0, 0, 0): {2: 1}})
        rows, doubts = doubt_of_four(many, x, x, x, x)
        self.assertEqual((rows, doubts), four(many, x, x, x, x))
        self.assertTrue(rows)

    def test_several_rows_come(self):
        # x y l is z for l the third place, and nothing else comes in.
        many = Many(2, [1, 1, 1, 2], 4, {(0, 1, 2): {3: 1}})
        self.assertEqual(doubt_of_four(many, {0: 1}, {1: 1}, {0: 1}, {0: 1}), (({}, {3: 1}), ()))
        many = Many(3, [1, 1, 2], 4, {(0, 0, 1): {2: 1}})
        self.assertEqual(doubt_of_four(many, {0: 1}, {0: 1}, {0: 1}, {0: 1}), (({}, {2: 1}, {2: 2}), ()))


class ThreeTest(unittest.TestCase):
    def test_all_books(self):
        rnd = random.Random(1)
        told = {"none": 0, "row": 0, "doubts": 0, "both": 0}
        for many in books(3):
            for rows in many_fine_rows(many, rnd, 3, 15):
                found = untouched(self, doubt_of_three, many, *rows)
                self.assertEqual(found, three(many, *rows))
                if found is None:
                    told["none"] += 1
                    continue
                row, doubts = found
                self.assertIsInstance(doubts, tuple)
                self.assertIsInstance(found, tuple)
                self.assertTrue(is_ascending(row) and all(is_ascending(one) for one in doubts))
                told["row"] += bool(row)
                told["doubts"] += bool(doubts)
                told["both"] += bool(row and doubts)
        self.assertTrue(min(told.values()) > 10, told)

    def test_what_is_returned_is_new(self):
        many = Many(5, [1, 2, 2], 3, {(0, 0, 0): {1: 2}, (0, 0): {2: 0}})
        doubt_of_three(many, {0: 1}, {0: 1}, {0: 1})[0][1] = 4
        self.assertEqual(many.products, {(0, 0, 0): {1: 2}})

    def test_most_beyond_three_changes_nothing(self):
        for most in (3, 4, 8):
            many = Many(5, [1, 2, 2], most, {(0, 0, 0): {1: 2}})
            self.assertEqual(doubt_of_three(many, {0: 1}, {0: 1}, {0: 1}), ({1: 2}, ()))


class FourTest(unittest.TestCase):
    def test_all_books(self):
        rnd = random.Random(2)
        told = {"none": 0, "rows": 0, "doubts": 0, "several": 0, "empty": 0, "long": 0}
        for many in books(4):
            for rows in many_fine_rows(many, rnd, 4, 12):
                high = [many.heights[min(clean(row, many.prime))] for row in rows]
                size = sum(len(at_height(many.heights, high[k] + high[k + 1] - 1)) for k in range(3))
                if many.prime ** size > 300:
                    continue
                found = untouched(self, doubt_of_four, many, *rows)
                self.assertEqual(found, four(many, *rows))
                if found is None:
                    told["none"] += 1
                    continue
                told["rows"] += any(found[0])
                told["doubts"] += bool(found[1])
                told["several"] += len(found[0]) > 1
                told["empty"] += not found[0]
                told["long"] += bool(rows_product(many, rows))
                keys = [tuple(row.items()) for row in found[0]]
                self.assertEqual(keys, sorted(set(keys)))
                self.assertTrue(all(is_ascending(row) for part in found for row in part))
        self.assertTrue(min(told.values()) > 3, told)


    def test_where_all_comes_in(self):
        rnd = random.Random(3)
        told = {"several": 0, "one": 0, "none": 0, "doubts": 0}
        for seed in range(60):
            many = one_road_book(seed)
            rows = [{k: rnd.randrange(1, many.prime)} for k in range(4)]
            found = doubt_of_four(many, *rows)
            self.assertEqual(found, four(many, *rows))
            told[("none", "one", "several")[min(2, len(found[0]))]] += 1
            told["doubts"] += bool(found[1])
        self.assertTrue(min(told.values()) > 3, told)


class ErrorsTest(unittest.TestCase):
    def test_books(self):
        for function, least in ((doubt_of_three, 3), (doubt_of_four, 4)):
            rows = [None] * least
            for junk in NO_MANYS:
                refused(self, BadMany, "part", None, function, junk, *rows)
            refused(self, BadMany, "part", "step", function, Many(3, [1, 2], 1, {(0,): {1: 1}}), *rows)
            refused(self, BadMany, "part", "step", function, Many(3, [1, 2], 5, {(0,): {1: 1}}), *rows)
            for most in range(1, least):
                refused(self, BadMany, "part", "most", function, Many(3, [1, 2], most, {}), *rows)
            x = {0: 1}
            many = Many(3, [1, 2], least, {})
            for k in range(least):
                for junk in NO_ROWS + ({0: 1, 1: 1},):
                    rows = [x] * k + [junk] + [x] * (least - 1 - k)
                    refused(self, BadRow, None, None, function, many, *rows)
            self.assertIsNotNone(function(many, *[{0: 1, 1: 3}] * least))
            # A row that is none is told of, also where no product is.
            multiplied = Many(3, [1, 2], least, {(0, 0): {1: 1}})
            refused(self, BadRow, None, None, function, multiplied, *([x] * (least - 1) + [{}]))
        many = Many(3, [1, 2], 4, {(0, 0, 0): {1: 1}})
        self.assertEqual(doubt_of_three(third=x, other=x, one=x, many=many), ({1: 1}, ()))
        self.assertEqual(doubt_of_four(fourth={1: 1}, third=x, other=x, one=x, many=many),
                         doubt_of_four(many, x, x, x, {1: 1}))

    def test_too_many(self):
        # All of height 1: h, k, l have as many places each.
        x = {0: 1}
        for prime, size, fits in ((2, 4, True), (2, 5, False), (3, 2, True), (3, 3, False), (17, 1, True),
                                  (19, 1, False)):
            many = Many(prime, [1] * size, 4, {})
            if fits:
                self.assertEqual(doubt_of_four(many, x, x, x, x), (({},), ()))
            else:
                refused(self, TooMany, "most", 6561, doubt_of_four, many, x, x, x, x)
            self.assertEqual(doubt_of_three(many, x, x, x), ({}, ()))
        # Heights of their own: 81 as two factors is just 6561.
        heights = [1, 3, 5, 7, 3, 3, 7, 7, 7, 7, 11, 11]
        rows = [{0: 1}, {1: 1}, {2: 1}, {3: 1}]
        many = Many(3, heights, 4, {})
        self.assertEqual([heights.count(level) for level in (1 + 3 - 1, 3 + 5 - 1, 5 + 7 - 1)], [3, 5, 2])
        refused(self, TooMany, "most", 6561, doubt_of_four, many, *rows)
        many = Many(3, heights[:9] + [8] + heights[10:], 4, {})
        refused(self, TooMany, "most", 6561, doubt_of_four, many, *rows)
        many = Many(3, heights[:8] + [8, 8] + heights[10:], 4, {})
        self.assertEqual(doubt_of_four(many, *rows), (({},), ()))

    def test_too_many_comes_only_where_the_products_of_neighbours_are_nothing(self):
        heights = [1] * 10 + [2]
        x, y = {0: 1}, {1: 1}
        many = Many(2, heights, 4, {(0, 1): {10: 1}})
        for rows in ([x, y, x, x], [y, x, y, y], [y, y, x, y]):
            self.assertIsNone(doubt_of_four(many, *rows))
        refused(self, TooMany, "most", 6561, doubt_of_four, many, y, y, x, x)
        refused(self, BadRow, None, None, doubt_of_four, many, y, y, x, {})


if __name__ == "__main__":
    unittest.main()
