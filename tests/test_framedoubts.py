import random
import unittest

from leftproducts.choices import left_heights, made_choice
from leftproducts.doubts import doubt_of_four, doubt_of_three
from leftproducts.errors import BadChoice, BadFrame, BadRow, TooMany
from leftproducts.framedoubts import frame_doubt_of_four, frame_doubt_of_three
from leftproducts.frames import Frame
from leftproducts.makers import turning_frame
from leftproducts.many import many_of, rows_product
from leftproducts.tidyrows import row_less, tidy_rows
from leftproducts.transfers import left_many
from tests.books import hidden_three
from tests.doubting import added, at_height, many_fine_rows
from tests.helpers import (JUNK, clean, is_ascending, letters_frame, mixed_frame, other_choice, refused, small_frames,
                           spread, two, untouched)
from tests.test_doubts import NO_ROWS
from tests.test_transfers import four_letters


def hidden_four(prime=2):
    """A frame that leaves x, w of the heights 1, 2: products of two and three of x are nothing, that of four is w."""
    # x, a, b, and x x, x a, x b as w: the step of a is x x, that of b is x a.
    heights = [1, 1, 1, 2, 2, 2]
    return Frame(prime, heights, {(0, 0): {3: 1}, (0, 1): {4: 1}, (0, 2): {5: 1}}, {1: {3: 1}, 2: {4: 1}})


def frames():
    return small_frames() + [hidden_three(), hidden_three(2), mixed_frame(hidden_three(5), 4), hidden_four(),
                             hidden_four(3), mixed_frame(hidden_four(3), 4), four_letters(2),
                             mixed_frame(four_letters(2), 1), turning_frame(2, 4, [{}, {}, {(0, 1): 1}, {}])]


def cases(seeds):
    for frame in frames():
        yield frame, made_choice(frame)
        for seed in seeds:
            yield frame, other_choice(frame, seed)


def few(many, rows):
    """Whether there are few h, k, l."""
    high = [many.heights[min(clean(row, many.prime))] for row in rows]
    return many.prime ** sum(len(at_height(many.heights, high[k] + high[k + 1] - 1)) for k in range(3)) <= 6561


class AnyRowsTest(unittest.TestCase):
    """Point 52 with rows U, V, W, P, Q taken at random."""

    def setUp(self):
        self.rnd = random.Random(1)
        self.others = {}

    def left_row(self, frame, choice, height):
        """Any row of this height whose step is nothing."""
        steps = [row for place, row in frame.step.items() if frame.heights[place] == height - 1]
        rows = [row for row in choice[0] if frame.heights[min(row)] == height] + steps
        return spread(rows, {k: self.rnd.randrange(frame.prime) for k in range(len(rows))}, frame.prime)

    def under(self, frame, row, height):
        """Any row whose step and row are nothing together."""
        if id(frame) not in self.others:
            self.others[id(frame)] = (frame, [other_choice(frame, seed) for seed in (11, 12, 13)])
        choice = self.rnd.choice(self.others[id(frame)][1])
        found = spread(choice[2], row, frame.prime)
        steps = [frame.step.get(k, {}) for k in range(len(frame.heights))]
        self.assertEqual(added(frame.prime, spread(steps, found, frame.prime), row), {})
        return added(frame.prime, found, self.left_row(frame, choice, height))

    def doubts(self, frame, choice, X, Z, ahead, behind):
        within, onto, _ = choice
        levels = left_heights(frame, choice)
        rows = [spread(onto, two(frame, within[h], Z), frame.prime) for h in at_height(levels, ahead)]
        rows += [spread(onto, two(frame, X, within[k]), frame.prime) for k in at_height(levels, behind)]
        return tidy_rows(frame.prime, rows)

    def test_three(self):
        told = {"row": 0, "doubts": 0}
        for frame, choice in cases((1,)):
            many = left_many(frame, choice, 3)
            prime, onto = frame.prime, choice[1]
            for rows in many_fine_rows(many, self.rnd, 3, 5):
                found = untouched(self, frame_doubt_of_three, frame, choice, *rows)
                X, Y, Z = [spread(choice[0], row, prime) for row in rows]
                a, b, c = [many.heights[min(clean(row, prime))] for row in rows]
                both = two(frame, X, Y), two(frame, Y, Z)
                if any(spread(onto, row, prime) for row in both):
                    self.assertIsNone(found)
                    continue
                row, doubts = found
                self.assertEqual(doubts, self.doubts(frame, choice, X, Z, a + b - 1, b + c - 1))
                for _ in range(3):
                    U, V = self.under(frame, both[0], a + b - 1), self.under(frame, both[1], b + c - 1)
                    total = added(prime, two(frame, U, Z), two(frame, X, V))
                    self.assertEqual(row_less(prime, doubts, spread(onto, total, prime)), row)
                told["row"] += bool(row)
                told["doubts"] += bool(doubts)
        self.assertTrue(min(told.values()) > 5, told)

    def test_four(self):
        told = {"rows": 0, "hit": 0, "missed": 0, "none": 0}
        for frame, choice in cases((2,)):
            if len(frame.heights) == 16 and frame.prime > 2:
                continue
            many = left_many(frame, choice, 3)
            for rows in many_fine_rows(many, self.rnd, 4, 4):
                if not few(many, rows):
                    continue
                found = frame_doubt_of_four(frame, choice, *rows)
                told["none"] += found is None
                if found is None:
                    continue
                told["rows"] += any(found[0])
                for _ in range(12):
                    value = self.one_of_four(frame, choice, many, rows)
                    if value is None:
                        told["missed"] += 1
                        continue
                    self.assertIn(row_less(frame.prime, found[1], value), found[0])
                    told["hit"] += 1
        self.assertTrue(min(told.values()) > 5, told)

    def one_of_four(self, frame, choice, many, rows):
        prime, onto = frame.prime, choice[1]
        X, Y, Z, T = [spread(choice[0], row, prime) for row in rows]
        a, b, c, d = [many.heights[min(clean(row, prime))] for row in rows]
        U = self.under(frame, two(frame, X, Y), a + b - 1)
        V = self.under(frame, two(frame, Y, Z), b + c - 1)
        W = self.under(frame, two(frame, Z, T), c + d - 1)
        ahead = added(prime, two(frame, U, Z), two(frame, X, V))
        behind = added(prime, two(frame, V, T), two(frame, Y, W))
        if spread(onto, ahead, prime) or spread(onto, behind, prime):
            return None
        P = self.under(frame, ahead, a + b + c - 2)
        Q = self.under(frame, behind, b + c + d - 2)
        return spread(onto, added(prime, two(frame, P, T), two(frame, U, W), two(frame, X, Q)), prime)


class AsOfLeftManyTest(unittest.TestCase):
    def test_three(self):
        rnd = random.Random(3)
        rows_told = 0
        for frame, choice in cases((3, 4)):
            for most in (3, 4) if len(choice[0]) < 5 else (3,):
                many = left_many(frame, choice, most)
                for rows in many_fine_rows(many, rnd, 3, 10):
                    found = frame_doubt_of_three(frame, choice, *rows)
                    self.assertEqual(found, doubt_of_three(many, *rows))
                    if found is not None:
                        rows_told += bool(found[0])
                        self.assertTrue(is_ascending(found[0]) and all(is_ascending(row) for row in found[1]))
                        # The product of three is in the doubtful product.
                        self.assertEqual(row_less(many.prime, found[1], rows_product(many, rows)), found[0])
        self.assertGreater(rows_told, 10)

    def test_four(self):
        rnd = random.Random(4)
        rows_told, in_it = 0, 0
        for frame, choice in cases((5,)):
            if len(choice[0]) ** 4 > 10000:
                continue
            for most in (4, 5) if len(choice[0]) < 4 else (4,):
                many = left_many(frame, choice, most)
                for rows in many_fine_rows(many, rnd, 4, 6):
                    if not few(many, rows):
                        continue
                    found = untouched(self, frame_doubt_of_four, frame, choice, *rows)
                    self.assertEqual(found, doubt_of_four(many, *rows))
                    if found is None:
                        continue
                    rows_told += any(found[0])
                    if not rows_product(many, rows[:3]) and not rows_product(many, rows[1:]):
                        less = row_less(many.prime, found[1], rows_product(many, rows))
                        self.assertIn(less, found[0])
                        in_it += bool(less)
        self.assertTrue(rows_told > 5 and in_it > 2, (rows_told, in_it))

    def test_by_hand(self):
        for prime in (2, 3, 5):
            frame = hidden_three(prime)
            x = clean(made_choice(frame)[1][0], prime)
            row, doubts = frame_doubt_of_three(frame, made_choice(frame), x, x, x)
            self.assertEqual((len(row), doubts), (1, ()))
            frame = hidden_four(prime)
            choice = made_choice(frame)
            rows, doubts = frame_doubt_of_four(frame, choice, x, x, x, x)
            self.assertEqual((len(rows), len(rows[0]), doubts), (1, 1, ()))
            self.assertEqual(set(spread(choice[0], rows[0], prime)), {5})


class AnotherChoiceTest(unittest.TestCase):
    def test_led(self):
        rnd = random.Random(5)
        told = {"three": 0, "four": 0, "row": 0}
        for frame in frames():
            prime = frame.prime
            made = made_choice(frame)
            for one, other in ((made, other_choice(frame, 6)), (other_choice(frame, 7), made)):
                led = [spread(other[1], row, prime) for row in one[0]]
                many = left_many(frame, one, 2)
                for length, function in ((3, frame_doubt_of_three), (4, frame_doubt_of_four)):
                    for rows in many_fine_rows(many, rnd, length, 4):
                        if length == 4 and not few(many, rows):
                            continue
                        here = function(frame, one, *rows)
                        there = function(frame, other, *[spread(led, row, prime) for row in rows])
                        self.assertEqual(here is None, there is None)
                        if here is None:
                            continue
                        doubts = tidy_rows(prime, [spread(led, row, prime) for row in here[1]])
                        self.assertEqual(doubts, there[1])
                        lot = here[0] if length == 4 else [here[0]]
                        lot = {tuple(row_less(prime, doubts, spread(led, row, prime)).items()) for row in lot}
                        self.assertEqual(lot, {tuple(row.items()) for row in (there[0] if length == 4 else [there[0]])})
                        told["three" if length == 3 else "four"] += 1
                        told["row"] += any(lot)
        self.assertTrue(min(told.values()) > 10, told)


class ErrorsTest(unittest.TestCase):
    def test_kinds(self):
        frame = letters_frame()
        choice = made_choice(frame)
        for function, length in ((frame_doubt_of_three, 3), (frame_doubt_of_four, 4)):
            nothing = [None] * length
            for junk in (None, 0, True, "x", {}, Frame, many_of(frame, 2)):
                refused(self, BadFrame, "part", None, function, junk, None, *nothing)
            for junk in JUNK + (list(choice), choice[:2], made_choice(four_letters())):
                refused(self, BadChoice, None, None, function, frame, junk, *nothing)
            x = {1: 1}
            for k in range(length):
                # Leftovers 0 to 5 of the heights 0, 1, 1, 2, 2, 3; the frame has eight places.
                for junk in NO_ROWS + ({6: 1}, {0: 1, 1: 1}, {2: 1, 3: 2}):
                    rows = [x] * k + [junk] + [x] * (length - 1 - k)
                    refused(self, BadRow, None, None, function, frame, choice, *rows)
        one = {0: 1}
        self.assertIsNone(frame_doubt_of_three(third=one, other=one, one=one, choice=choice, frame=frame))
        self.assertEqual(frame_doubt_of_three(frame, choice, {1: 4, 0: 3}, x, {2: -1}),
                         frame_doubt_of_three(frame, choice, x, x, {2: 2}))
        self.assertEqual(frame_doubt_of_four(fourth={2: 1}, third=x, other=x, one=x, choice=choice, frame=frame),
                         ((), ()))

    def test_too_many_counts_leftovers(self):
        x = {0: 1}
        for prime, size, fits in ((2, 4, True), (2, 5, False), (3, 2, True), (3, 3, False)):
            # Some places of height 1 more, which are made or lead on.
            heights = [1] * (size + 8) + [2] * 4 + [0] * 4
            steps = {size + k: {size + 8 + k: 1} for k in range(4)}
            steps.update({size + 12 + k: {size + 4 + k: 1} for k in range(4)})
            frame = Frame(prime, heights, {}, steps)
            for choice in (made_choice(frame), other_choice(frame, 3)):
                if fits:
                    self.assertEqual(frame_doubt_of_four(frame, choice, x, x, x, x), (({},), ()))
                else:
                    refused(self, TooMany, "most", 6561, frame_doubt_of_four, frame, choice, x, x, x, x)
                    refused(self, BadRow, None, None, frame_doubt_of_four, frame, choice, x, x, x, {})
                self.assertEqual(frame_doubt_of_three(frame, choice, x, x, x), ({}, ()))

    def test_none_ahead_of_too_many(self):
        frame = Frame(2, [1] * 10 + [2], {(0, 1): {10: 1}}, {})
        choice = tuple({k: 1} for k in range(11)), tuple({k: 1} for k in range(11)), ({},) * 11
        x, y = {0: 1}, {1: 1}
        for rows in ([x, y, x, x], [y, x, y, y], [y, y, x, y]):
            self.assertIsNone(frame_doubt_of_four(frame, choice, *rows))
        refused(self, TooMany, "most", 6561, frame_doubt_of_four, frame, choice, y, y, x, x)

    def test_frames_of_many_leftovers(self):
        # No book of products of three is made: there would be too many words.
        frame = Frame(2, [1] * 16 + [2] * 16, {(k, k + 1): {16: 1} for k in range(15)}, {})
        choice = made_choice(frame)
        self.assertEqual(frame_doubt_of_three(frame, choice, {0: 1}, {0: 1}, {0: 1}), ({}, ({16: 1},)))


if __name__ == "__main__":
    unittest.main()
