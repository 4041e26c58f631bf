import random
import unittest

from leftproducts.bigrows import big_table
from leftproducts.bigsizes import big_led, big_sizes
from leftproducts.choices import made_choice
from leftproducts.errors import BadLead, BadMany, BadNumber, BadWords, TooMany
from leftproducts.leads import Lead, plain_lead, put_behind
from leftproducts.leasts import least_many
from leftproducts.leftovers import left_sizes
from leftproducts.many import Many, many_of
from leftproducts.moves import moved_many
from leftproducts.sames import choice_lead
from leftproducts.transfers import left_into, left_many, left_onto
from tests.bigwords import led_by, random_words, sizes_by_ranks, some_frames, step_of_word, word_books
from tests.books import NO_MANYS, moved, some_books
from tests.helpers import (clean, cuts, is_ascending, letters_frame, other_choice, plus, refused, small_frames, turn,
                           untouched, words_up_to)


def led_word_by_word(lead, words):
    """big_led, as point 81 tells it."""
    prime, total = lead.one.prime, {}
    for word, times in words.items():
        for parts in cuts(word):
            led = {(): times}
            for part in parts:
                row = lead.rows.get(part, {})
                led = {begun + (place,): n * m for begun, n in led.items() for place, m in row.items()}
            plus(total, led, 1)
    return clean(total, prime)


def some_leads():
    """Leads of all kinds: plain ones, those of what is left, moved ones, and some that cannot be undone."""
    found = [plain_lead(many) for many in some_books()]
    found += [moved(many, seed) for many in some_books() for seed in (1, 2)]
    for frame in some_frames():
        for choice in (made_choice(frame), other_choice(frame, 3)):
            found += [left_into(frame, choice, 3), left_onto(frame, choice, 3)]
    nothing = Many(3, [1], 3, {})
    found += [Lead(nothing, nothing, {}), Lead(nothing, Many(3, [0, 1], 3, {}), {(0, 0): {1: 1}, (0,): {1: 2}})]
    return [lead for lead in found if len(lead.one.heights) <= 8]


class BigSizesTest(unittest.TestCase):
    def test_by_hand(self):
        # x x is y: of the words of up to two places x x leads to y.
        many = Many(3, [1, 2], 3, {(0, 0): {1: 1}})
        self.assertEqual(big_sizes(many, 1), {0: 1, 1: 1})
        self.assertEqual(big_sizes(many, 2), {0: 1, 1: 2, 2: 1})
        # The step leads the first place to the second one.
        self.assertEqual(big_sizes(Many(5, [0, 1], 3, {(0,): {1: 2}}), 3), {})
        self.assertEqual(big_sizes(many=Many(5, [], 3, {}), length=2), {})
        # Without products all words are left.
        self.assertEqual(big_sizes(Many(2, [-3, 4], 2, {}), 2), {-8: 1, -4: 1, -1: 2, 3: 1, 6: 1})

    def test_by_ranks(self):
        for many in word_books():
            for length in range(1, min(many.most, 3 if len(many.heights) < 6 else 2) + 1):
                sizes = untouched(self, big_sizes, many, length)
                words = words_up_to(len(many.heights), length)
                turns = {word: turn(many.heights, word) for word in words}
                steps = {word: step_of_word(many.prime, many.heights, many.products, word) for word in words}
                self.assertEqual(sizes, sizes_by_ranks(many.prime, turns, steps))
                self.assertEqual(list(sizes), sorted(sizes))
                self.assertTrue(all(number > 0 for number in sizes.values()))

    def test_of_one_place_it_is_what_products_of_one_leave(self):
        for frame in small_frames():
            wanted = {height - 1: number for height, number in left_sizes(frame).items()}
            self.assertEqual(big_sizes(many_of(frame, 3), 1), wanted)

    def test_the_same_for_what_is_left(self):
        for frame in small_frames():
            for choice in (made_choice(frame), other_choice(frame, 1), other_choice(frame, 5)):
                one, other = many_of(frame, 3), left_many(frame, choice, 3)
                for length in (1, 2, 3):
                    self.assertEqual(big_sizes(one, length), big_sizes(other, length))

    def test_the_same_for_books_that_leads_leave_the_same(self):
        for many in word_books():
            lead = least_many(many)
            for length in range(1, min(many.most, 3) + 1):
                self.assertEqual(big_sizes(many, length), big_sizes(lead.one, length))
        for many in some_books():
            lead = moved(many, 7)
            self.assertEqual(big_sizes(many, 3), big_sizes(lead.other, 3))

    def test_longer_products_count(self):
        many = Many(3, [1, 2], 4, {(0, 0, 0): {1: 1}})
        other = Many(3, [1, 2], 4, {})
        self.assertEqual(big_sizes(many, 2), big_sizes(other, 2))
        self.assertNotEqual(big_sizes(many, 3), big_sizes(other, 3))

    def test_errors(self):
        for junk in NO_MANYS:
            refused(self, BadMany, "part", None, big_sizes, junk, None)
        many = Many(3, [1, 2], 3, {})
        for length in (0, 4, -1, True, None, "2", 2.0, (2,)):
            refused(self, BadNumber, "part", "length", big_sizes, many, length)
        wide = Many(3, [1] * 32, 8, {})
        refused(self, BadNumber, "part", "length", big_sizes, wide, 9)
        refused(self, TooMany, "most", 2000, big_sizes, wide, 3)
        refused(self, TooMany, "most", 2000, big_sizes, wide, 8)
        self.assertEqual(big_sizes(wide, 2), {0: 32 + 32 * 32})
        # Of 12 places 1884 words of up to three, of 13 there are 2379.
        self.assertEqual(big_sizes(Many(3, [1] * 12, 3, {}), 3), {0: 1884})
        refused(self, TooMany, "most", 2000, big_sizes, Many(3, [1] * 13, 3, {}), 3)


class BigLedTest(unittest.TestCase):
    def test_by_hand(self):
        one = Many(3, [1, 1], 3, {})
        lead = moved_many(one, [1, 1], {(0,): {0: 1, 1: 1}, (1,): {1: 2}})
        self.assertEqual(big_led(lead, {(0,): 1}), {(0,): 1, (1,): 1})
        self.assertEqual(big_led(lead, {(0, 1): 1}), {(0, 1): 2, (1, 1): 2})
        # A word of three places, cut after the first or the second one, or not at all.
        turned = Many(3, [1, 1], 3, {})
        lead = Lead(one, turned, {(0,): {0: 1}, (1,): {1: 1}, (0, 0): {1: 1}, (0, 0, 0): {0: 2}})
        self.assertEqual(big_led(lead, {(0, 0, 0): 1}), {(0, 0, 0): 1, (0,): 2, (0, 1): 1, (1, 0): 1})
        self.assertEqual(big_led(lead=lead, words={}), {})
        self.assertEqual(big_led(lead, {(0, 0): 4, (1, 1): 3, (0,): -1}), {(0,): 2, (0, 0): 1, (1,): 1})

    def test_word_by_word(self):
        rnd = random.Random(4)
        for lead in some_leads():
            for _ in range(4):
                words = random_words(rnd, lead.one.prime, len(lead.one.heights), min(lead.one.most, 3))
                led = untouched(self, big_led, lead, words)
                self.assertEqual(led, led_word_by_word(lead, words))
                self.assertTrue(is_ascending(led))

    def test_goes_along_with_the_big_step(self):
        rnd = random.Random(5)
        looked = 0
        for lead in some_leads():
            one, other = lead.one, lead.other
            for _ in range(4):
                words = random_words(rnd, one.prime, len(one.heights), min(one.most, 3))
                ahead = {word: step_of_word(one.prime, one.heights, one.products, word) for word in words}
                led = big_led(lead, words)
                behind = {word: step_of_word(one.prime, other.heights, other.products, word) for word in led}
                self.assertEqual(big_led(lead, led_by(ahead, words, one.prime)), led_by(behind, led, one.prime))
                looked += bool(led_by(behind, led, one.prime))
        self.assertGreater(looked, 20)

    def test_goes_along_with_big_table(self):
        lead = moved(Many(3, [1, 1, 2], 3, {(0, 0, 1): {2: 1}, (1, 0): {2: 2}}), 3)
        one, other = (big_table(3, book.heights, 3, book.products) for book in (lead.one, lead.other))
        for word in words_up_to(3, 3):
            self.assertEqual(big_led(lead, one.get(word, {})), led_by(other, big_led(lead, {word: 1}), 3))

    def test_one_behind_the_other(self):
        rnd = random.Random(6)
        pairs = []
        for frame in some_frames():
            choice, other = made_choice(frame), other_choice(frame, 2)
            into, onto = left_into(frame, choice, 3), left_onto(frame, other, 3)
            pairs += [(into, onto), (onto, left_into(frame, other, 3)), (choice_lead(frame, other, choice, 3), into)]
        for many in some_books():
            first = moved(many, 1)
            pairs.append((first, moved(first.other, 2)))
        for first, second in pairs:
            both = put_behind(first, second)
            for _ in range(3):
                words = random_words(rnd, first.one.prime, len(first.one.heights), 3)
                self.assertEqual(big_led(both, words), big_led(second, big_led(first, words)))
        frame = letters_frame()
        choice = other_choice(frame, 1)
        back = put_behind(left_into(frame, choice, 3), left_onto(frame, choice, 3))
        words = random_words(rnd, 3, 6, 3, 20)
        self.assertEqual(big_led(back, words), clean(words, 3))

    def test_errors(self):
        for junk in NO_MANYS + (Many(3, [1], 2, {}), Lead):
            refused(self, BadLead, "part", None, big_led, junk, None)
        lead = plain_lead(Many(3, [1, 1], 3, {}))
        for junk in (None, 0, True, "x", [], (), {(): 1}, {0: 1}, {(2,): 1}, {(-1,): 1}, {(0, 0, 0, 0): 1},
                     {(True,): 1}, {(0,): True}, {(0,): "1"}, {(0,): 1.0}, {(0,): {}}, {"0": 1}, {(2,): 0}, {None: 1}):
            refused(self, BadWords, None, None, big_led, lead, junk)


if __name__ == "__main__":
    unittest.main()
