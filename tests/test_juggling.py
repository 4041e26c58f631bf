"""What follows for doubtful products (point 53): juggling, and frames turned about."""

import random
import unittest

from leftproducts.choices import left_heights, made_choice
from leftproducts.doubts import doubt_of_three
from leftproducts.frames import Frame
from leftproducts.framedoubts import frame_doubt_of_three
from leftproducts.many import rows_product
from leftproducts.sides import turned
from leftproducts.tidyrows import row_less, tidy_rows
from leftproducts.transfers import left_many
from tests.doubting import added, at_height, fine_rows, many_fine_rows
from tests.helpers import clean, is_sum_of, other_choice, sign
from tests.test_doubts import books
from tests.test_framedoubts import frames, hidden_four


def times(row, number, prime):
    return clean({k: number * n for k, n in row.items()}, prime)


class Juggler:
    """Products, turns and heights of fine rows of one book."""

    def __init__(self, many):
        self.many, self.prime = many, many.prime

    def height(self, row):
        return self.many.heights[min(clean(row, self.prime))]

    def s(self, *rows):
        return sign(sum(self.height(row) - 1 for row in rows))

    def tell(self, *rows):
        return rows_product(self.many, list(rows))

    def between(self, x, t, height):
        """The products of (x and h) and t, for all places h of this height."""
        return [self.tell(self.tell(x, {h: 1}), t) for h in at_height(self.many.heights, height)]


def lists(many, length, good=12):
    return many_fine_rows(many, random.Random(length), length, good)


def long_books():
    """Books where what is asked for here comes about: with ones, and with longer products beside them."""
    found = books(3)
    for frame in frames():
        for choice in (made_choice(frame), other_choice(frame, 8)):
            if len(choice[0]) ** 3 < 800:
                found.append(left_many(frame, choice, 3))
    found.append(left_many(room(3), made_choice(room(3)), 3))
    found.append(left_many(room(2), other_choice(room(2), 1), 3))
    return found


def room(prime):
    """Words of x (1) and u (0) and v (0), with a (1) whose step is x x: what is left has products of two rows
    beside the product of three x."""
    names = ["x", "a", "xx", "xa", "u", "ux", "ua", "uxx", "uxa", "xu", "au", "xxu", "xau", "uxu", "uau", "uxxu", "uxau"]
    level = {"x": 1, "a": 1, "u": 0}
    heights = [sum(level[letter] for letter in name) for name in names]
    at = {name: k for k, name in enumerate(names)}
    product = {(at[one], at[other]): {at[one + other]: 1} for one in names for other in names if one + other in at}
    step = {at[name]: {at[name.replace("a", "xx")]: 1} for name in ("a", "ua", "au", "uau")}
    return Frame(prime, heights, product, step)


class NeighboursTest(unittest.TestCase):
    def test_of_four(self):
        looked, busy = 0, 0
        for many in long_books():
            game = Juggler(many)
            for x, y, z, t in lists(many, 4):
                if game.tell(x, y) or game.tell(y, z) or game.tell(z, t):
                    continue
                row, behind = doubt_of_three(many, x, y, z)[0], doubt_of_three(many, y, z, t)[0]
                total = added(many.prime, game.tell(row, t), times(game.tell(x, behind), game.s(x), many.prime))
                rows = game.between(x, t, game.height(y) + game.height(z) - 1)
                self.assertTrue(is_sum_of(total, rows, many.prime))
                looked += 1
                busy += bool(game.tell(row, t))
        self.assertTrue(looked > 100 and busy > 2, (looked, busy))


class OneMoreTest(unittest.TestCase):
    def cases(self):
        """A doubtful product x, y, z that is there, and a row t more."""
        rnd = random.Random(7)
        for many in long_books():
            game = Juggler(many)
            for x, y, z in lists(many, 3):
                if not game.tell(x, y) and not game.tell(y, z):
                    for t in fine_rows(many.prime, many.heights, rnd, 8):
                        yield game, x, y, z, t

    def test_ahead(self):
        looked, busy = 0, 0
        for game, x, y, z, t in self.cases():
            ahead = game.tell(t, x)
            if not ahead:
                continue
            row, doubts = doubt_of_three(game.many, x, y, z)
            there = doubt_of_three(game.many, ahead, y, z)
            self.assertIsNotNone(there)
            wanted = times(game.tell(t, row), -game.s(t), game.prime)
            self.assertEqual(row_less(game.prime, there[1], wanted), there[0])
            self.assertTrue(all(is_sum_of(game.tell(t, one), there[1], game.prime) for one in doubts))
            looked += 1
            busy += bool(there[0])
        self.assertTrue(looked > 100 and busy > 5, (looked, busy))

    def test_behind(self):
        looked, busy = 0, 0
        for game, x, y, z, t in self.cases():
            behind = game.tell(z, t)
            if not behind:
                continue
            row, doubts = doubt_of_three(game.many, x, y, z)
            there = doubt_of_three(game.many, x, y, behind)
            self.assertIsNotNone(there)
            wanted = times(game.tell(row, t), -game.s(x, y), game.prime)
            self.assertEqual(row_less(game.prime, there[1], wanted), there[0])
            self.assertTrue(all(is_sum_of(game.tell(one, t), there[1], game.prime) for one in doubts))
            looked += 1
            busy += bool(there[0])
        self.assertTrue(looked > 100 and busy > 5, (looked, busy))

    def test_in_between(self):
        rnd = random.Random(9)
        looked, busy = 0, 0
        for many in long_books():
            game = Juggler(many)
            for _ in range(150):
                rows = fine_rows(many.prime, many.heights, rnd, 4)
                if not rows:
                    break
                x, t, y, z = rows
                ahead, behind = game.tell(x, t), game.tell(t, y)
                if not ahead or not behind or game.tell(ahead, y) or game.tell(y, z):
                    continue
                first, second = doubt_of_three(many, ahead, y, z), doubt_of_three(many, x, behind, z)
                if second is None:
                    # x and (t y) are nothing as (x t) and y are; (t y) and z as y and z are.
                    self.fail("both are there")
                both = tidy_rows(many.prime, first[1] + second[1])
                total = added(many.prime, first[0], times(second[0], game.s(x), many.prime))
                self.assertEqual(row_less(many.prime, both, total), {})
                looked += 1
                busy += bool(first[0])
        self.assertTrue(looked > 50 and busy > 2, (looked, busy))


class TurnedTest(unittest.TestCase):
    def test_turned_frames(self):
        rnd = random.Random(11)
        busy = 0
        for frame in frames() + [hidden_four(5), room(3)]:
            for choice in (made_choice(frame), other_choice(frame, 12)):
                many = left_many(frame, choice, 2)
                levels = left_heights(frame, choice)
                for x, y, z in many_fine_rows(many, rnd, 3, 6):
                    here = frame_doubt_of_three(frame, choice, x, y, z)
                    there = frame_doubt_of_three(turned(frame), choice, z, y, x)
                    self.assertEqual(here is None, there is None)
                    if here is None:
                        continue
                    a, b, c = [levels[min(clean(row, frame.prime))] - 1 for row in (x, y, z)]
                    self.assertEqual(here[1], there[1])
                    self.assertEqual(there[0], times(here[0], sign(a * b + a * c + b * c), frame.prime))
                    busy += bool(here[0])
        self.assertGreater(busy, 10)


if __name__ == "__main__":
    unittest.main()
