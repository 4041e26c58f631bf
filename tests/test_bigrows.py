import random
import unittest

from leftproducts.bigrows import big_table, is_big, products_told, twice_left
from leftproducts.errors import BadMany, BadNumber, BadPrime, BadWords, TooMany
from leftproducts.many import Many, rule_rows
from tests.bigwords import led_by, random_products, table_of, word_books
from tests.helpers import JUNK, clean, is_ascending, refused, untouched, words_up_to

NO_TABLES = (None, 0, True, "x", [], (), [((0,), {(0,): 1})], {(0,): None}, {(0,): 0}, {(0,): [((0,), 1)]}, {(): {}},
             {(0,): {(): 1}}, {0: {}}, {"0": {}}, {(True,): {}}, {(2,): {}}, {(-1,): {}}, {(0, 0, 0, 0): {}},
             {(0,): {0: 1}}, {(0,): {(True,): 1}}, {(0,): {(0,): True}}, {(0,): {(0,): "1"}}, {(0,): {(0,): 1.0}},
             {(0,): {(2,): 0}}, {(0,): {(0, 0, 0, 0): 0}}, {(0.0,): {}}, {None: {}})
HEIGHTS = ([1, 1, 2], [0, 1], [-1, 0, 0, 1], [2, 3], [1, 2, 3, 3], [0], [], [4, -2, 1], [0, 1, 2], [-1, 0, 1],
           [1, 2, 3], [0, 0, 1])


def some_products():
    """Products of words of all kinds, with and without the rule of many."""
    rnd = random.Random(8)
    found = [(many.prime, many.heights, many.most, many.products) for many in word_books()]
    for _ in range(120):
        prime, heights, most = rnd.choice((2, 3, 7)), rnd.choice(HEIGHTS), rnd.randrange(1, 6)
        most = most if len(heights) < 4 else min(most, 3)
        found.append((prime, heights, most, random_products(rnd, prime, heights, most, rnd.choice((0.2, 0.7, 1)))))
    return found


def can_be_made(prime, heights, most, products):
    try:
        Many(prime, heights, most, products)
    except BadMany as error:
        assert error.part == "rule"
        return False
    return True


class BigTableTest(unittest.TestCase):
    def test_by_hand(self):
        # x x is y: in x x x it is met twice, and as the turn of x is 0 it goes past x without a sign.
        self.assertEqual(big_table(3, [1, 2], 3, {(0, 0): {1: 1}}),
                         {(0, 0): {(1,): 1}, (0, 0, 0): {(0, 1): 1, (1, 0): 1},
                          (0, 0, 1): {(1, 1): 1}, (1, 0, 0): {(1, 1): 2}})
        # The step of a place of height 0, whose turn is odd.
        self.assertEqual(big_table(5, [0, 1], 2, {(0,): {1: 2}}),
                         {(0,): {(1,): 2}, (0, 0): {(0, 1): 3, (1, 0): 2}, (0, 1): {(1, 1): 2}, (1, 0): {(1, 1): 2}})
        self.assertEqual(big_table(prime=2, heights=(), most=8, products={}), {})

    def test_word_by_word(self):
        for values in some_products():
            table = untouched(self, big_table, *values)
            self.assertEqual(table, table_of(*values))
            self.assertTrue(is_ascending(table))

    def test_what_comes_together_is_left_out(self):
        # e e is e: in e e e the two ways are of different signs.
        table = big_table(3, [0], 4, {(0, 0): {0: 1}})
        self.assertEqual(table, {(0, 0): {(0,): 1}, (0, 0, 0, 0): {(0, 0, 0): 1}})
        self.assertEqual(big_table(3, [1, 2], 2, {(0, 0): {1: 3}, (0,): {}}), {})

    def test_errors(self):
        for prime in (1, 4, 37, True, None, "3"):
            refused(self, BadPrime, None, None, big_table, prime, None, None, None)
        for heights in (None, 0, {}, [65], [True], [0] * 33):
            refused(self, BadMany, "part", "heights", big_table, 3, heights, None, None)
        for most in (0, 9, True, None, "2", 2.0):
            refused(self, BadNumber, "part", "most", big_table, 3, [1, 2], most, None)
        for products in (None, [], {(0, 0, 0): {}}, {(0, 0): {0: 1}}, {(0, 0): {1: True}}, {(True,): {}}, {(): {}},
                         {(0, 0): {2: 1}}, {0: {}}):
            refused(self, BadMany, "part", "products", big_table, 3, [1, 2], 2, products)

    def test_too_many_words(self):
        self.assertEqual(len(big_table(3, [1] * 7 + [2], 4, {(0,): {7: 1}})), 1 + 15 + 169 + 1695)
        refused(self, TooMany, "most", 5000, big_table, 3, [1] * 17, 3, {})
        refused(self, TooMany, "most", 5000, big_table, 3, [1] * 32, 8, {(0, 0): {}})
        refused(self, BadMany, "part", "products", big_table, 3, [1] * 32, 8, {(0, 0): {0: 1}})
        self.assertEqual(big_table(3, [1] * 16, 3, {}), {})
        # Four places: 5460 words of up to 6, 1364 of up to 5; one place: as many as their length.
        refused(self, TooMany, "most", 5000, big_table, 3, [1] * 4, 6, {})
        self.assertEqual(big_table(3, [1] * 4, 5, {}), {})
        self.assertEqual(len(big_table(3, [0], 8, {(0, 0): {0: 1}})), 4)


class TwiceLeftTest(unittest.TestCase):
    def test_nothing_exactly_if_the_many_can_be_made(self):
        made, other = 0, 0
        for prime, heights, most, products in some_products():
            left = twice_left(prime, heights, most, big_table(prime, heights, most, products))
            self.assertEqual(left == {}, can_be_made(prime, heights, most, products))
            made += left == {}
            other += left != {}
            if left:
                length = min(map(len, left))
                rows = rule_rows(prime, heights, {word: row for word, row in products.items() if len(word) <= length},
                                 length)
                told = {word: row for word, row in left.items() if len(word) == length}
                self.assertEqual(told, {word: {(place,): number for place, number in row.items()}
                                        for word, row in rows.items()})
        self.assertGreater(made, 30)
        self.assertGreater(other, 30)

    def test_any_table(self):
        rnd = random.Random(3)
        for _ in range(30):
            prime, places, most = rnd.choice((2, 5)), rnd.randrange(1, 3), rnd.randrange(1, 4)
            words = words_up_to(places, most)
            table = {word: {rnd.choice(words): rnd.randrange(-prime, 2 * prime) for _ in range(3)}
                     for word in words if rnd.random() < 0.6}
            left = untouched(self, twice_left, prime, [0] * places, most, table)
            wanted = {word: led_by(table, row, prime) for word, row in sorted(table.items())}
            self.assertEqual(left, {word: row for word, row in wanted.items() if row})
            self.assertTrue(is_ascending(left))
        self.assertEqual(twice_left(prime=3, heights=[0], most=1, table={}), {})
        self.assertEqual(twice_left(3, [0] * 32, 8, {(31,) * 8: {(5,): 4}, (5,): {(6, 7): 5, (7,): 3}}),
                         {(31,) * 8: {(6, 7): 2}})

    def test_errors(self):
        refused(self, BadPrime, None, None, twice_left, 9, None, None, None)
        refused(self, BadMany, "part", "heights", twice_left, 3, [65], None, None)
        refused(self, BadNumber, "part", "most", twice_left, 3, [1, 1], 9, None)
        refused(self, BadNumber, "part", "most", twice_left, 3, [1, 1], True, None)
        for junk in NO_TABLES:
            refused(self, BadWords, None, None, twice_left, 3, [1, 1], 3, junk)
        self.assertEqual(twice_left(3, [1, 1], 3, {(0,): {}, (1, 1): {(0, 1): 3}}), {})


class IsBigTest(unittest.TestCase):
    def test_products_and_tables_tell_one_another(self):
        for prime, heights, most, products in some_products():
            table = big_table(prime, heights, most, products)
            self.assertTrue(is_big(prime, heights, most, table))
            told = untouched(self, products_told, prime, heights, most, table)
            wanted = {word: clean(row, prime) for word, row in sorted(products.items())}
            self.assertEqual(told, {word: row for word, row in wanted.items() if row})
            self.assertTrue(is_ascending(told))
            self.assertEqual(big_table(prime, heights, most, told), table)

    def test_a_table_changed_in_one_number_or_one_word(self):
        rnd = random.Random(5)
        longer = 0
        for prime, heights, most, products in some_products():
            table = big_table(prime, heights, most, products)
            words = words_up_to(len(heights), most)
            for word in rnd.sample(words, min(4, len(words))):
                other = rnd.choice(words)
                row = dict(table.get(word, {}))
                row[other] = row.get(other, 0) + rnd.randrange(1, prime)
                changed = {**table, word: row}
                wanted = self.is_table_of_some(prime, heights, most, changed)
                self.assertEqual(is_big(prime, heights, most, changed), wanted)
                if len(other) > 1:
                    # A word of more places is told by shorter products: it cannot be changed alone.
                    self.assertFalse(is_big(prime, heights, most, changed))
                    refused(self, BadWords, None, None, products_told, prime, heights, most, changed)
                    longer += 1
            for word in rnd.sample(sorted(table), min(3, len(table))):
                lacking = {one: row for one, row in table.items() if one != word}
                wanted = self.is_table_of_some(prime, heights, most, lacking)
                self.assertEqual(is_big(prime, heights, most, lacking), wanted)
        self.assertGreater(longer, 100)

    def is_table_of_some(self, prime, heights, most, table):
        """Whether the table is that of the products that its words of one place tell."""
        products = {}
        for word, row in table.items():
            firsts = {other[0]: number % prime for other, number in row.items() if len(other) == 1 and number % prime}
            if any(heights[place] - 2 != sum(heights[k] - 1 for k in word) for place in firsts):
                return False
            products[word] = firsts
        tidy = {word: clean(row, prime) for word, row in table.items()}
        return table_of(prime, heights, most, products) == {word: row for word, row in tidy.items() if row}

    def test_a_word_that_is_lacking(self):
        # x x is y: without its longest words the table is none, though each word that is told is right.
        table = big_table(3, [1, 2], 3, {(0, 0): {1: 1}})
        for word in ((0, 0, 0), (0, 0, 1), (1, 0, 0)):
            self.assertFalse(is_big(3, [1, 2], 3, {one: row for one, row in table.items() if one != word}))
        shorter = {(0, 0): {(1,): 1}}
        self.assertTrue(is_big(3, [1, 2], 2, shorter))
        self.assertFalse(is_big(3, [1, 2], 3, shorter))
        self.assertFalse(is_big(3, [1, 2] * 16, 8, shorter))
        # What is lacking may be far from the word with the product: here all words of three and of four come to 0.
        self.assertTrue(is_big(2, [0], 3, {(0, 0): {(0,): 1}}))
        self.assertFalse(is_big(2, [0], 4, {(0, 0): {(0,): 1}}))
        self.assertTrue(is_big(2, [0], 5, {(0, 0): {(0,): 1}, (0, 0, 0, 0): {(0, 0, 0): 1}}))

    def test_any_value(self):
        for junk in NO_TABLES:
            self.assertIs(is_big(3, [1, 1], 3, junk), False)
            refused(self, BadWords, None, None, products_told, 3, [1, 1], 3, junk)
        for junk in JUNK:
            self.assertIs(is_big(3, [1, 1], 3, junk), junk == {} and isinstance(junk, dict))
        self.assertIs(is_big(3, [1] * 32, 8, {}), True)
        self.assertEqual(products_told(prime=3, heights=[1] * 32, most=8, table={}), {})
        self.assertIs(is_big(prime=5, heights=[], most=8, thing={}), True)
        # Modulo the prime, {} left out, in whatever sequence.
        table = {(0, 0, 0): {(1, 0): 4, (0, 1): -2}, (1, 0, 0): {(1, 1): -1, (0,): 3}, (1,): {},
                 (0, 1): {(1, 1, 1): 3}, (0, 0, 1): {(1, 1): 1}, (0, 0): {(1,): 7}}
        self.assertIs(is_big(3, [1, 2], 3, table), True)
        self.assertEqual(products_told(3, [1, 2], 3, table), {(0, 0): {1: 1}})
        # Of the wrong turn.
        self.assertIs(is_big(3, [1, 2], 1, {(0,): {(0,): 1}}), False)
        self.assertIs(is_big(3, [1, 2], 1, {(0,): {(1,): 1}}), True)

    def test_errors(self):
        for function in (is_big, products_told):
            for prime in (1, 4, 37, True, None, "3"):
                refused(self, BadPrime, None, None, function, prime, None, None, None)
            for heights in (None, 0, {}, [65], [True], [0] * 33):
                refused(self, BadMany, "part", "heights", function, 3, heights, None, None)
            for most in (0, 9, True, None, "2"):
                refused(self, BadNumber, "part", "most", function, 3, [1, 2], most, None)


if __name__ == "__main__":
    unittest.main()
