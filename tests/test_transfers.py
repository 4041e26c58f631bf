import random
import unittest

from leftproducts.choices import left_heights, left_product, made_choice
from leftproducts.errors import BadChoice, BadFrame, BadNumber, TooMany
from leftproducts.frames import Frame
from leftproducts.leads import plain_lead, put_behind
from leftproducts.makers import turning_frame, words_frame
from leftproducts.many import ends, many_of, product_row
from leftproducts.transfers import left_into, left_many, left_onto
from tests.helpers import (JUNK, clean, cuts, is_ascending, lead_holds, letters_frame, mixed_frame, other_choice, plus,
                           refused, rule_left, sign, small_frames, spread, turn, two, untouched, words_up_to)


def by_trees(frame, choice, most):
    """The pair (products, into) as point 33 tells it, word by word."""
    within, onto, undo = choice
    into = {(k,): clean(row, frame.prime) for k, row in enumerate(within)}
    products = {}
    for word in words_up_to(len(within), most, 2):
        both = {}
        for one, other in cuts(word, 2):
            plus(both, two(frame, into[one], into[other]), 1)
        products[word] = spread(onto, both, frame.prime)
        into[word] = spread(undo, both, frame.prime)
    return products, into


def once_over(frame, choice, words):
    """Once over a sum of words of places."""
    within, onto, undo = choice
    there = [spread(within, row, frame.prime) for row in onto]
    found = {}
    for word, number in words.items():
        for k in range(len(word)):
            rows = [there[place] for place in word[:k]] + [undo[word[k]]] + [{place: 1} for place in word[k + 1:]]
            told = {(): number * sign(turn(frame.heights, word[:k]))}
            for row in rows:
                told = {start + (place,): n * m for start, n in told.items() for place, m in row.items()}
            plus(found, told, 1)
    return clean(found, frame.prime)


def neighbours(frame, words):
    """The sum of the words with two neighbours multiplied, with the signs of what stands ahead."""
    found = {}
    for word, number in words.items():
        for k in range(len(word) - 1):
            row = two(frame, {word[k]: 1}, {word[k + 1]: 1})
            times = number * sign(turn(frame.heights, word[:k]))
            plus(found, {word[:k] + (place,) + word[k + 2:]: m for place, m in row.items()}, times)
    return clean(found, frame.prime)


def onto_of(frame, choice, word):
    words = {word: 1}
    for _ in range(len(word) - 1):
        words = neighbours(frame, once_over(frame, choice, words))
    return spread(choice[1], {place: number for (place,), number in words.items()}, frame.prime)


def other_road(frame, choice, word):
    """The product of a word of leftovers by sums that end."""
    within, onto, _ = choice
    words = {(): 1}
    for k in word:
        words = {start + (place,): n * m for start, n in words.items() for place, m in within[k].items()}
    words = neighbours(frame, words)
    for _ in range(len(word) - 2):
        words = neighbours(frame, once_over(frame, choice, words))
    return spread(onto, {place: number for (place,), number in words.items()}, frame.prime)


def four_letters(prime=3):
    """Its leftovers have a product of four that is not nothing."""
    return turning_frame(prime, 4, [{}, {}, {(0, 1): 1}, {(0, 2): 1}])


def cases(most):
    for frame in small_frames():
        for choice in (made_choice(frame), other_choice(frame, 1), other_choice(frame, 2)):
            if len(choice[0]) ** most < 2000:
                yield frame, choice


class ByHandTest(unittest.TestCase):
    def test_letters(self):
        frame = letters_frame()
        choice = made_choice(frame)
        many = left_many(frame, choice, 3)
        self.assertEqual(sorted(many.heights), [0, 1, 1, 2, 2, 3])
        threes = [word for word in words_up_to(6, 3, 3)
                  if all(many.heights[k] == 1 for k in word) and product_row(many, word)]
        self.assertTrue(threes)

    def test_letters_number_by_number(self):
        frame = letters_frame()
        within = ({0: 1}, {1: 1}, {2: 1}, {5: 1}, {6: 1}, {7: 1})
        onto = ({0: 1}, {1: 1}, {2: 1}, {}, {}, {3: 1}, {4: 1}, {5: 1})
        choice = (within, onto, ({}, {}, {}, {}, {3: -1}, {}, {}, {}))
        many = left_many(frame, choice, 3)
        # x x y: the product of x and y is - (0 1), undone it is letter 2, and - x 2 is - (0 2).
        self.assertEqual(product_row(many, (1, 1, 2)), {3: 2})
        self.assertEqual(product_row(many, (1, 2)), {})
        self.assertEqual(product_row(many, (1, 4)), {5: 2})
        self.assertEqual(product_row(many, (0, 1)), {1: 1})
        self.assertEqual(product_row(many, (1, 0)), {1: 2})
        into = left_into(frame, choice, 3)
        self.assertEqual(into.rows[1, 2], {3: 1})
        self.assertEqual(into.rows[2, 1], {3: 2})
        lead = left_onto(frame, choice, 2)
        # Letters 0 and 1 have no undo; 0 and the lot (0, 1): - 0 times - letter 2, as two, with the turn 0.
        self.assertNotIn((1, 2), lead.rows)
        self.assertEqual(lead.rows[1, 4], {3: 1})

    def test_four(self):
        for prime in (2, 3, 31):
            frame = four_letters(prime)
            many = left_many(frame, made_choice(frame), 4)
            self.assertIn(4, {len(word) for word in many.products})


class LeftManyTest(unittest.TestCase):
    def test_by_trees(self):
        longer = 0
        for frame, choice in cases(4):
            many = untouched(self, left_many, frame, choice, 4)
            products, into = by_trees(frame, choice, 4)
            self.assertEqual(many.products, {word: products[word] for word in sorted(products) if products[word]})
            self.assertEqual(many.heights, left_heights(frame, choice))
            self.assertEqual((many.prime, many.most), (frame.prime, 4))
            self.assertTrue(is_ascending(many.products))
            lead = untouched(self, left_into, frame, choice, 4)
            self.assertEqual((lead.one, lead.other), (many, many_of(frame, 4)))
            self.assertEqual(lead.rows, {word: into[word] for word in sorted(into) if into[word]})
            longer += any(len(word) > 2 for word in many.products)
        self.assertGreater(longer, 5)

    def test_the_rule(self):
        for frame, choice in cases(4):
            many = left_many(frame, choice, 4)
            words = words_up_to(len(many.heights), 4)
            self.assertFalse([word for word in words if rule_left(many.prime, many.heights, many.products, word)])

    def test_the_other_road(self):
        rnd = random.Random(1)
        for frame, choice in cases(4):
            many = left_many(frame, choice, 5 if len(choice[0]) < 4 else 4)
            words = words_up_to(len(many.heights), many.most, 2)
            told = [word for word in many.products if len(word) > 2]
            for word in rnd.sample(words, min(20, len(words))) + rnd.sample(told, min(20, len(told))):
                self.assertEqual(many.products.get(word, {}), other_road(frame, choice, word))

    def test_up_to_two_it_is_left_product(self):
        for frame, choice in cases(2):
            many = left_many(frame, choice, 2)
            table = left_product(frame, choice)
            heights = left_heights(frame, choice)
            wanted = {pair: {k: sign(heights[pair[0]]) * n % frame.prime for k, n in row.items()}
                      for pair, row in table.items()}
            self.assertEqual(many.products, wanted)
            self.assertEqual(left_many(frame, choice, 1).products, {})

    def test_frames_without_a_step(self):
        for frame in (turning_frame(3, 2, [{}, {}]), words_frame(2, [1, 0], [{}, {}], 2), Frame(5, [3, -2, 3], {}, {})):
            choice = made_choice(frame)
            many = left_many(frame, choice, 4)
            self.assertEqual(len(many.heights), len(frame.heights))
            self.assertTrue(all(len(word) == 2 for word in many.products))
            self.assertTrue(ends(many))

    def test_shorter_ones_are_cut(self):
        for frame, choice in cases(4):
            four, three = left_many(frame, choice, 4), left_many(frame, choice, 3)
            self.assertEqual(three.products, {word: row for word, row in four.products.items() if len(word) < 4})


class LeftOntoTest(unittest.TestCase):
    def test_word_by_word(self):
        rnd = random.Random(2)
        longer = 0
        for frame, choice in cases(3):
            if len(frame.heights) > 7:
                continue
            lead = untouched(self, left_onto, frame, choice, 3)
            self.assertEqual((lead.one, lead.other), (many_of(frame, 3), left_many(frame, choice, 3)))
            words = words_up_to(len(frame.heights), 3)
            longer += any(len(word) > 2 for word in lead.rows)
            for word in rnd.sample(words, min(150, len(words))) + [word for word in lead.rows if len(word) < 3]:
                self.assertEqual(lead.rows.get(word, {}), onto_of(frame, choice, word))
            self.assertTrue(is_ascending(lead.rows))
        self.assertGreater(longer, 3)

    def test_longer_words(self):
        rnd = random.Random(3)
        for frame in (letters_frame(), mixed_frame(letters_frame(), 2), words_frame(5, [1], [{(0, 0): 2}], 3)):
            choice = other_choice(frame, 3)
            lead = left_onto(frame, choice, 4)
            told = [word for word in lead.rows if len(word) == 4]
            self.assertTrue(told)
            for word in rnd.sample(told, min(10, len(told))):
                self.assertEqual(lead.rows[word], onto_of(frame, choice, word))


class LeadsTest(unittest.TestCase):
    def test_they_are_leads(self):
        for frame, choice in cases(3):
            if len(frame.heights) < 8:
                self.assertTrue(lead_holds(left_into(frame, choice, 3)))
                self.assertTrue(lead_holds(left_onto(frame, choice, 3)))

    def test_onto_behind_into_is_plain(self):
        for frame, choice in cases(4):
            for most in (1, 2, 3, 4):
                into, onto = left_into(frame, choice, most), left_onto(frame, choice, most)
                self.assertEqual(put_behind(into, onto), plain_lead(left_many(frame, choice, most)))

    def test_larger_frames(self):
        frame = mixed_frame(four_letters(5), 3)
        for choice in (made_choice(frame), other_choice(frame, 4)):
            into, onto = left_into(frame, choice, 3), left_onto(frame, choice, 3)
            self.assertEqual(put_behind(into, onto), plain_lead(into.one))
        frame = turning_frame(31, 5, [{}, {}, {(0, 1): 1}, {(0, 2): 5}, {}])
        choice = made_choice(frame)
        into, onto = left_into(frame, choice, 2), left_onto(frame, choice, 2)
        self.assertEqual(put_behind(into, onto), plain_lead(into.one))

    def test_many_lengths(self):
        frame = words_frame(5, [1], [{(0, 0): 2}], 3)
        for choice in (made_choice(frame), other_choice(frame, 4)):
            for most in (5, 6):
                into, onto = left_into(frame, choice, most), left_onto(frame, choice, most)
                self.assertEqual(put_behind(into, onto), plain_lead(into.one))
        eight = left_many(frame, made_choice(frame), 8)
        self.assertEqual(eight.most, 8)


class ErrorsTest(unittest.TestCase):
    def test_kinds(self):
        frame = letters_frame()
        choice = made_choice(frame)
        for function in (left_many, left_into, left_onto):
            for junk in (None, 0, True, "x", {}, Frame, many_of(frame, 2)):
                refused(self, BadFrame, "part", None, function, junk, None, None)
            for junk in JUNK + (made_choice(four_letters()), list(choice), choice[:2]):
                refused(self, BadChoice, None, None, function, frame, junk, None)
            for most in (0, 9, -1, True, None, "2", 2.0):
                refused(self, BadNumber, "part", "most", function, frame, choice, most)
            self.assertEqual(function(most=1, choice=choice, frame=frame), function(frame, choice, 1))

    def test_too_many(self):
        ten, eleven = Frame(2, [0] * 10, {}, {}), Frame(2, [0] * 11, {}, {})
        for function in (left_many, left_into, left_onto):
            function(ten, made_choice(ten), 4)
            refused(self, TooMany, "most", 10000, function, ten, made_choice(ten), 5)
            refused(self, TooMany, "most", 10000, function, eleven, made_choice(eleven), 4)
            function(eleven, made_choice(eleven), 3)
            refused(self, BadNumber, "part", "most", function, eleven, made_choice(eleven), 9)
            refused(self, BadChoice, None, None, function, eleven, made_choice(ten), 4)

    def test_too_many_counts_leftovers_but_for_onto_places(self):
        frame = Frame(2, [0] * 6 + [1] * 5, {}, {k: {k + 6: 1} for k in range(5)})
        choice = made_choice(frame)
        self.assertEqual(left_many(frame, choice, 8).heights, (0,))
        self.assertEqual(left_into(frame, choice, 8).rows, {(0,): {5: 1}})
        refused(self, TooMany, "most", 10000, left_onto, frame, choice, 4)
        self.assertEqual(left_onto(frame, choice, 3).rows, {(5,): {0: 1}})
        for most in (1, 8):
            empty = Frame(2, [], {}, {})
            self.assertEqual(left_onto(empty, ((), (), ()), most).rows, {})


if __name__ == "__main__":
    unittest.main()
