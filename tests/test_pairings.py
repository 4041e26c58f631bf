import random
import unittest

from leftproducts.choices import is_choice, left_heights, made_choice
from leftproducts.errors import BadChoice, BadEnd, BadFrame, BadWord, NotOdd
from leftproducts.frames import Frame
from leftproducts.makers import faces_frame, turning_frame
from leftproducts.many import Many
from leftproducts.pairings import end_number, fit_choice, is_end, is_fit
from leftproducts.sides import turned
from leftproducts.transfers import left_many
from tests.ends import end_by_rules, end_of, end_of_product, frames_with_ends, maps_frame, other_fit_choice
from tests.helpers import (JUNK, all_rows, clean, cuts, letters_frame, other_choice, plus, refused, sign, small_frames,
                           spread, two, untouched, words_up_to)

NO_FRAMES = (None, 0, True, "x", {}, (), Frame, Many(3, [1], 2, {}))


def fits(frame, end, choice):
    """is_fit, as point 85 tells it."""
    undo = choice[2]
    for a, height in enumerate(frame.heights):
        for b in range(len(frame.heights)):
            ahead = end_of_product(frame, end, undo[a], {b: 1})
            if (ahead - sign(height) * end_of_product(frame, end, {a: 1}, undo[b])) % frame.prime:
                return False
    return True


def number_by_trees(frame, end, choice, word):
    """end_number, by trees over this one word."""
    within, onto, undo = choice

    def both(part):
        total = {}
        for one, other in cuts(part, 2):
            plus(total, two(frame, into(one), into(other)), 1)
        return clean(total, frame.prime)

    def into(part):
        return within[part[0]] if len(part) == 1 else spread(undo, both(part), frame.prime)

    ahead = spread(within, spread(onto, both(word[:-1]), frame.prime), frame.prime)
    return end_of(frame, end, two(frame, ahead, within[word[-1]]))


def odd_ones():
    return [(frame, end) for frame, end in frames_with_ends() if frame.prime != 2]


class IsEndTest(unittest.TestCase):
    def test_by_hand(self):
        frame = letters_frame()
        for number in (1, 2, 4, -1):
            self.assertIs(is_end(frame, {7: number}), True)
        for row in ({}, {0: 1}, {6: 1}, {7: 3}, {7: 1, 0: 1}, {4: 1}):
            self.assertIs(is_end(frame, row), False)
        self.assertIs(is_end(frame, {7: 1, 0: 3, 6: -6}), True)
        points = faces_frame(7, [(0,), (1,)])
        self.assertIs(is_end(points, {0: 3, 1: 1}), True)
        self.assertIs(is_end(points, {0: 3}), False)
        self.assertIs(is_end(frame=Frame(5, [], {}, {}), thing={}), True)
        self.assertIs(is_end(Frame(5, [0], {}, {}), {}), False)
        self.assertIs(is_end(Frame(5, [0], {}, {}), {0: 1}), False)

    def test_ends_that_are_some(self):
        for frame, end in frames_with_ends():
            self.assertIs(untouched(self, is_end, frame, end), True)
            self.assertTrue(end_by_rules(frame, end))
            self.assertIs(is_end(turned(frame), end), True)

    def test_all_rows(self):
        ends = 0
        frames = [faces_frame(3, [(0,), (1,)]), maps_frame(2, [0, 1], {})[0], maps_frame(3, [0, 1], {0: {1: 1}})[0],
                  turning_frame(3, 2, [{}, {}]), maps_frame(3, [0, 0], {})[0], faces_frame(3, [(0,), (1,), (0, 1)]),
                  Frame(3, [0, 1, 2], {(0, 0): {0: 1}, (0, 1): {1: 1}, (1, 0): {1: 1}, (0, 2): {2: 1}, (2, 0): {2: 1}},
                        {}),
                  Frame(3, [0, 1, 0], {(0, 0): {0: 1}, (0, 1): {1: 1}}, {}),
                  Frame(2, [0, 0], {(0, 1): {1: 1}, (0, 0): {0: 1}}, {})]
        for frame in frames:
            for row in all_rows(frame.prime, range(len(frame.heights))):
                # The last rule: no row but {} has the end 0 with each place behind it.
                free = all(any(end_of_product(frame, row, one, {b: 1}) for b in range(len(frame.heights)))
                           for one in all_rows(frame.prime, range(len(frame.heights))) if one)
                self.assertEqual(is_end(frame, row), end_by_rules(frame, row) and free)
                ends += is_end(frame, row)
        self.assertGreater(ends, 8)

    def test_each_rule_alone(self):
        # Two heights; the end of a step; of a product the other way round, with its sign; rows without an end.
        mixed = Frame(3, [0, 2], {(0, 0): {0: 1}}, {})
        self.assertIs(is_end(Frame(3, [0], {(0, 0): {0: 1}}, {}), {0: 1}), True)
        self.assertIs(is_end(mixed, {0: 1, 1: 1}), False)
        self.assertIs(is_end(mixed, {0: 1}), False)
        frame, end = maps_frame(3, [0, 1], {0: {1: 1}})
        self.assertIs(is_end(frame, end), True)
        self.assertIs(is_end(frame, {0: 1, 3: 1}), False)
        self.assertIs(is_end(maps_frame(3, [0, 1], {})[0], {0: 1, 3: 1}), False)
        self.assertIs(is_end(maps_frame(3, [0, 2], {})[0], {0: 1, 3: 1}), True)
        # u v is t, and t has the end 1: it may not be the step of u.
        product = {(0, 0): {0: 1}, (1, 2): {3: 1}, (2, 1): {3: 2}}
        for place in (1, 2, 3):
            product[0, place] = product[place, 0] = {place: 1}
        self.assertIs(is_end(Frame(3, [0, -1, 1, 0], product, {}), {3: 1}), True)
        self.assertIs(is_end(Frame(3, [0, -1, 1, 0], product, {1: {3: 1}}), {3: 1}), False)
        letter = Frame(5, [0, 1, 2], {(0, 0): {0: 1}, (0, 1): {1: 1}, (1, 0): {1: 1}, (0, 2): {2: 1}, (2, 0): {2: 1},
                                      (1, 1): {2: 1}}, {})
        self.assertIs(is_end(letter, {2: 1}), False)

    def test_any_value(self):
        frame = letters_frame()
        for junk in JUNK + ({7: True}, {7: 1.0}, {7: "1"}, {8: 1}, {7: 1, 8: 0}, {-1: 1}, {True: 1}, {"7": 1},
                            ((7, 1),), [(7, 1)], {(7,): 1}, {7: 1, None: 0}):
            self.assertIs(is_end(frame, junk), False)
        for junk in JUNK:
            self.assertIs(is_end(Frame(3, [], {}, {}), junk), isinstance(junk, dict) and not junk)
        for junk in NO_FRAMES:
            refused(self, BadFrame, "part", None, is_end, junk, None)


class IsFitTest(unittest.TestCase):
    def test_by_the_rule(self):
        both = {True: 0, False: 0}
        for frame, end in frames_with_ends():
            for choice in (made_choice(frame), other_choice(frame, 1), other_choice(frame, 2)):
                fit = untouched(self, is_fit, frame, end, choice)
                self.assertIs(fit, fits(frame, end, choice))
                both[fit] += 1
        self.assertGreater(min(both.values()), 5)

    def test_numbers_beyond_the_prime(self):
        frame = letters_frame()
        within, onto, undo = fit_choice(frame, {7: 1})
        undo = tuple({0: 3, **{k: number - 3 for k, number in row.items()}} for row in undo)
        self.assertIs(is_fit(frame=frame, end={7: -2, 1: 3}, choice=(within, onto, undo)), True)

    def test_errors(self):
        frame = letters_frame()
        for junk in NO_FRAMES:
            refused(self, BadFrame, "part", None, is_fit, junk, None, None)
        for junk in JUNK + ({7: True}, {6: 1}):
            refused(self, BadEnd, None, None, is_fit, frame, junk, None)
        for junk in JUNK + (list(made_choice(frame)), made_choice(turning_frame(5, 2, [{}, {}]))):
            refused(self, BadChoice, None, None, is_fit, frame, {7: 1}, junk)


class FitChoiceTest(unittest.TestCase):
    def test_there_always_is_one(self):
        changed = 0
        for frame, end in odd_ones():
            choice = untouched(self, fit_choice, frame, end)
            self.assertIs(is_choice(frame, choice), True)
            self.assertTrue(fits(frame, end, choice))
            self.assertIs(is_fit(frame, end, choice), True)
            self.assertEqual(fit_choice(frame, end), choice)
            again = Frame(frame.prime, list(frame.heights), frame.product, frame.step)
            self.assertEqual(fit_choice(again, {place: number + frame.prime for place, number in end.items()}), choice)
            changed += not is_fit(frame, end, made_choice(frame))
        self.assertGreater(changed, 3)

    def test_other_ones(self):
        others = 0
        for frame, end in odd_ones():
            for seed in (1, 2):
                choice = other_fit_choice(frame, end, seed)
                self.assertIs(is_fit(frame, end, choice), True)
                others += choice[2] != fit_choice(frame, end)[2]
        self.assertGreater(others, 5)

    def test_by_hand(self):
        self.assertEqual(fit_choice(frame=Frame(5, [], {}, {}), end={}), ((), (), ()))
        # Without steps all is left.
        within, onto, undo = fit_choice(turning_frame(5, 1, [{}]), {1: 3})
        self.assertEqual(undo, ({}, {}))
        self.assertEqual(len(within), 2)

    def test_errors(self):
        for junk in NO_FRAMES:
            refused(self, BadFrame, "part", None, fit_choice, junk, None)
        even = turning_frame(2, 3, [{}, {}, {(0, 1): 1}])
        for frame in (letters_frame(), even):
            for junk in JUNK + ({7: True}, {6: 1}, {7: 0}):
                refused(self, BadEnd, None, None, fit_choice, frame, junk)
        refused(self, NotOdd, None, None, fit_choice, even, {7: 1})
        refused(self, NotOdd, None, None, fit_choice, Frame(2, [], {}, {}), {})


class EndNumberTest(unittest.TestCase):
    def test_by_left_many(self):
        rnd = random.Random(5)
        seen = 0
        for frame, end in frames_with_ends():
            for choice in (made_choice(frame), other_choice(frame, 3)):
                size = len(choice[0])
                for length in (3, 4, 5, 6, 7):
                    if size == 0 or size ** (length - 1) > 1300:
                        continue
                    many = left_many(frame, choice, length - 1)
                    words = [word for word in many.products if len(word) == length - 1]
                    words += [tuple(rnd.randrange(size) for _ in range(length - 1)) for _ in range(5)]
                    for word in rnd.sample(words, min(12, len(words))):
                        last = rnd.randrange(size)
                        ahead = spread(choice[0], many.products.get(word, {}), frame.prime)
                        wanted = end_of(frame, end, two(frame, ahead, choice[0][last]))
                        self.assertEqual(untouched(self, end_number, frame, end, choice, word + (last,)), wanted)
                        seen += wanted != 0
        self.assertGreater(seen, 60)

    def test_by_hand(self):
        frame = turning_frame(5, 2, [{}, {}])
        choice = fit_choice(frame, {3: 2})
        names = {min(row): k for k, row in enumerate(choice[0])}
        one, x, y = names[0], names[1], names[2]
        # The product of two of them is x y, or minus that, then with 1 on the left or the right.
        self.assertEqual(end_number(frame=frame, end={3: 2}, choice=choice, word=(one, x, y)), 3)
        self.assertEqual(end_number(frame, {3: 2}, choice, (x, y, one)), 3)
        self.assertEqual(end_number(frame, {3: 2}, choice, (y, one, x)), 3 * 4 % 5 * 4 % 5)
        self.assertEqual(end_number(frame, {3: 2}, choice, (x, x, y)), 0)
        # Of six leftovers, with products of three of height 1 that are not nothing.
        frame = letters_frame()
        choice = fit_choice(frame, {7: 1})
        heights = left_heights(frame, choice)
        words = [word for word in words_up_to(6, 4, 4) if end_number(frame, {7: 1}, choice, word)]
        self.assertTrue(any(sorted(heights[k] for k in word) == [1, 1, 1, 1] for word in words))

    def turned_round(self, frame, end, choice, word):
        turns = [height - 1 for height in left_heights(frame, choice)]
        ahead, last = sum(turns[k] for k in word[:-1]), turns[word[-1]]
        number = end_number(frame, end, choice, word)
        wanted = sign(ahead * last) * end_number(frame, end, choice, word[-1:] + word[:-1])
        return number, (number - wanted) % frame.prime == 0

    def test_kept_by_turning_round(self):
        rnd = random.Random(6)
        seen = {length: 0 for length in range(3, 8)}
        for frame, end in odd_ones():
            for choice in (fit_choice(frame, end), other_fit_choice(frame, end, 1), other_fit_choice(frame, end, 2)):
                size = len(choice[0])
                for length in range(3, 8):
                    for word in self.likely_words(rnd, frame, end, choice, length) if size else []:
                        number, kept = self.turned_round(frame, end, choice, word)
                        self.assertTrue(kept)
                        seen[length] += number != 0
        for length in (3, 4):
            self.assertGreater(seen[length], 5, seen)

    def likely_words(self, rnd, frame, end, choice, length, many=8):
        """Words whose heights are those of the end, as others have the end 0; half of them all of height 1 but one."""
        if not end:
            return []
        heights = left_heights(frame, choice)
        aim = frame.heights[min(end)] - 3 + length
        low = [k for k, height in enumerate(heights) if height == 1] or list(range(len(heights)))
        words = []
        for tried in range(2000):
            word = [rnd.choice(low) if tried % 2 else rnd.randrange(len(heights)) for _ in range(length)]
            word[rnd.randrange(length)] = rnd.randrange(len(heights))
            if sum(heights[k] for k in word) == aim:
                words.append(tuple(word))
            if len(words) == many:
                break
        return words

    def test_longer_words_kept_by_turning_round(self):
        # Each letter's step is the first one times the one ahead: products of four and of five that are not nothing.
        steps = [{}, {}, {(0, 1): 1}, {(0, 2): 1}, {(0, 3): 1}]
        rnd = random.Random(9)
        seen = {length: 0 for length in range(4, 8)}
        for letters in (4, 5):
            frame, end = turning_frame(5, letters, steps[:letters]), {2 ** letters - 1: 1}
            for choice in (fit_choice(frame, end), other_fit_choice(frame, end, 3)):
                self.assertIs(is_fit(frame, end, choice), True)
                for length in seen:
                    for word in self.likely_words(rnd, frame, end, choice, length, 60):
                        number, kept = self.turned_round(frame, end, choice, word)
                        self.assertTrue(kept)
                        seen[length] += number != 0
        self.assertGreater(min(seen.values()), 3, seen)

    def test_not_kept_if_the_choice_is_not_fit(self):
        lost = 0
        rnd = random.Random(7)
        for frame, end in odd_ones():
            for seed in range(4):
                choice = other_choice(frame, seed)
                if choice[0] and not is_fit(frame, end, choice):
                    for word in self.likely_words(rnd, frame, end, choice, 4):
                        lost += not self.turned_round(frame, end, choice, word)[1]
        self.assertGreater(lost, 0)

    def test_words_of_many_leftovers(self):
        # Twelve leftovers and more: all words of six of them are far too many to go through.
        frame = turning_frame(5, 4, [{}, {}, {(0, 1): 1}, {(0, 2): 2}])
        rnd = random.Random(8)
        choice = other_fit_choice(frame, {15: 1}, 4)
        for length in (3, 5, 6, 7):
            for word in self.likely_words(rnd, frame, {15: 1}, choice, length):
                self.assertEqual(end_number(frame, {15: 1}, choice, word),
                                 number_by_trees(frame, {15: 1}, choice, word))

    def test_errors(self):
        frame = letters_frame()
        choice = made_choice(frame)
        for junk in NO_FRAMES:
            refused(self, BadFrame, "part", None, end_number, junk, None, None, None)
        for junk in JUNK:
            refused(self, BadEnd, None, None, end_number, frame, junk, None, None)
            refused(self, BadChoice, None, None, end_number, frame, {7: 1}, junk, None)
        for junk in JUNK + ((0, 1), (0,) * 8, [0, 1, 2], (0, 1, 6), (0, 1, -1), (0, 1, True), (0, 1, "2"), (0, 1, 2.0),
                            "012"):
            refused(self, BadWord, None, None, end_number, frame, {7: 1}, choice, junk)
        self.assertEqual(end_number(frame, {7: 1}, choice, (0,) * 7), 0)
        # The prime 2 is let.
        even = turning_frame(2, 2, [{}, {}])
        self.assertEqual(end_number(even, {3: 1}, made_choice(even), (0, 1, 2)), 1)

    def test_frames_of_all_kinds(self):
        # Only frames that have an end: the others tell BadEnd.
        for frame in small_frames():
            for row in ({}, {len(frame.heights) - 1: 1}):
                if is_end(frame, row):
                    self.assertTrue(end_by_rules(frame, row))
                else:
                    refused(self, BadEnd, None, None, end_number, frame, row, made_choice(frame), (0, 0, 0))


if __name__ == "__main__":
    unittest.main()
