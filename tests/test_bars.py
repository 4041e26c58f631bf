import random
import unittest

from leftproducts.bars import bar_product, bar_step, bars, ladder_counts
from leftproducts.errors import BadRow, BadRules, TooMany
from leftproducts.letterbooks import LetterBook, rest, rest_texts
from tests.helpers import JUNK, clean, is_ascending, plus, rank, refused, sign, untouched
from tests.letters import is_nothing, small_books, step_of, texts
from tests.test_letterbooks import NO_BOOKS


def length_of(bar):
    return sum(len(text) for text in bar)


def all_bars(book):
    """All tuples of rest texts, not empty, with at most most letters in all."""
    found = []
    begun = [()]
    while begun:
        begun = [bar + (text,) for bar in begun for length in range(1, book.most - length_of(bar) + 1)
                 for text in rest_texts(book, length)]
        found += begun
    return sorted(found, key=lambda bar: (length_of(bar), len(bar), bar))


def book_of(many):
    """A book of so many bars, from 696 to 777: of three letters without rules, but for some texts of four."""
    return LetterBook(3, 3, 4, [{text: 1} for text in texts(3, 4)[:777 - many]])


def random_sum(rnd, listed, prime, many=6):
    return {bar: rnd.randrange(-prime, 2 * prime) for bar in rnd.sample(listed, min(many, len(listed)))}


class BarsTest(unittest.TestCase):
    def test_by_hand(self):
        book = LetterBook(5, 1, 3, [{(0, 0, 0): 1}])
        x, xx = (0,), (0, 0)
        self.assertEqual(bars(book), [(x,), (xx,), (x, x), (x, xx), (xx, x), (x, x, x)])
        self.assertEqual(bars(LetterBook(5, 0, 3, [])), [])
        self.assertEqual(bars(LetterBook(5, 2, 1, [])), [((0,),), ((1,),)])

    def test_all_of_them_in_sequence(self):
        for book in small_books():
            listed = untouched(self, bars, book)
            self.assertIsInstance(listed, list)
            self.assertEqual(listed, all_bars(book))
            listed.append(None)
            self.assertEqual(bars(book), all_bars(book))

    def test_too_many(self):
        full = LetterBook(2, 2, 5, [])
        self.assertEqual(len(bars(full)), 682)
        for book in (LetterBook(2, 2, 6, []), LetterBook(31, 3, 6, []), LetterBook(2, 3, 4, [])):
            refused(self, TooMany, "most", 700, bars, book)
            refused(self, TooMany, "most", 700, ladder_counts, book)
            # Steps and products are told all the same.
            self.assertEqual(bar_step(book, {((0, 1),): 1}), {((0,), (1,)): 1})
            self.assertEqual(bar_product(book, {((0,),): 1}, {((1,),): 1}), {((0,), (1,)): 1})
        for junk in NO_BOOKS:
            refused(self, BadRules, None, None, bars, junk)
            refused(self, BadRules, None, None, ladder_counts, junk)
        self.assertEqual(len(bars(book=full)), 682)

    def test_just_700(self):
        for many in (699, 700):
            self.assertEqual(len(bars(book_of(many))), many)
            self.assertEqual(ladder_counts(book_of(many))[2, 4], 777 - many)
        self.assertEqual(len(all_bars(book_of(701))), 701)
        refused(self, TooMany, "most", 700, bars, book_of(701))
        refused(self, TooMany, "most", 700, ladder_counts, book_of(701))


class StepTest(unittest.TestCase):
    def test_by_hand(self):
        book = LetterBook(5, 1, 4, [{(0, 0, 0): 1}])
        x, xx = (0,), (0, 0)
        self.assertEqual(bar_step(book, {(x,): 1}), {})
        self.assertEqual(bar_step(book, {(xx,): 2}), {(x, x): 2})
        self.assertEqual(bar_step(book, {(xx, x): 1, (x, xx): 1}), {})
        self.assertEqual(bar_step(book, {(x, xx): 1}), {(x, x, x): 4})
        self.assertEqual(bar_step(book, {(xx, xx): 1}), {(x, x, xx): 1, (xx, x, x): 4})
        # y x is x y: the text x y comes of both.
        book = LetterBook(3, 2, 2, [{(1, 0): 1, (0, 1): 2}])
        self.assertEqual(bar_step(book, {((0, 1),): 1}), {((0,), (1,)): 1, ((1,), (0,)): 1})
        self.assertEqual(bar_step(book, {((0, 0),): 4, ((1, 1),): 3}), {((0,), (0,)): 1})
        # y x is nothing by itself, or 2 times x y.
        book = LetterBook(5, 2, 2, [{(1, 0): 1, (0, 1): -2}])
        self.assertEqual(bar_step(book, {((0, 1),): 1}), {((0,), (1,)): 1, ((1,), (0,)): 2})

    def test_by_the_rule(self):
        rnd = random.Random(1)
        for book in small_books():
            listed = bars(book)
            known = {}
            for length in range(2, book.most + 1):
                for text in texts(book.letters, length):
                    known[text] = rest(book, {text: 1})
            for _ in range(4):
                row = random_sum(rnd, listed, book.prime)
                found = untouched(self, bar_step, book, row)
                self.assertTrue(is_ascending(found))
                self.assertEqual(found, step_of(book, row, lambda text: known[text]))

    def test_twice_is_nothing(self):
        for book in small_books():
            for bar in bars(book):
                self.assertEqual(bar_step(book, bar_step(book, {bar: 1})), {})

    def test_it_goes_over_products(self):
        rnd = random.Random(2)
        filled = 0
        for book in small_books():
            listed = bars(book)
            for _ in range(12):
                floor = rnd.randrange(1, book.most + 1)
                one = random_sum(rnd, [bar for bar in listed if len(bar) == floor], book.prime, 3)
                other = random_sum(rnd, listed, book.prime, 3)
                total = bar_product(book, bar_step(book, one), other)
                plus(total, bar_product(book, one, bar_step(book, other)), sign(floor))
                self.assertEqual(bar_step(book, bar_product(book, one, other)), clean(total, book.prime))
                filled += bool(clean(total, book.prime))
        self.assertGreater(filled, 20)

    def test_errors(self):
        book = LetterBook(3, 2, 3, [{(1, 0): 1, (0, 1): 2}])
        for junk in NO_BOOKS:
            refused(self, BadRules, None, None, bar_step, junk, None)
            refused(self, BadRules, None, None, bar_product, junk, None, None)
        for junk in [thing for thing in JUNK if thing != {}]:
            self.bad(book, junk)
        # No tuple of texts, an empty one, an empty text, a head, a letter or kind beyond, too many letters.
        for bar in ((), ((),), ((0,), ()), ((1, 0),), ((0,), (1, 0)), ((2,),), ((-1,),), ((True,),), ((1.0,),), (0,),
                    ((0, 0), (0, 0)), ((0,), (0,), (0,), (0,)), ((0, 0, 0, 0),), "0", 0, None, (("0",),), (None,)):
            self.bad(book, {bar: 1})
            self.bad(book, {((0,),): 1, bar: 3})
        for number in (None, True, "1", 1.0):
            self.bad(book, {((0,),): number})
        self.assertEqual(bar_step(row={}, book=book), {})
        self.assertEqual(bar_product(other={}, one={}, book=book), {})

    def bad(self, book, row):
        refused(self, BadRow, None, None, bar_step, book, row)
        refused(self, BadRow, None, None, bar_product, book, row, {})
        refused(self, BadRow, None, None, bar_product, book, {}, row)


class ProductTest(unittest.TestCase):
    def test_by_hand(self):
        book = LetterBook(5, 2, 3, [{(1, 0): 1, (0, 1): 1}])
        one, other = {((0,),): 2, ((0, 1),): 6, ((1,), (1,)): 5}, {((1,),): 3, ((0,), (1,)): -1, ((1, 1, 1),): 1}
        wanted = {((0,), (0,), (1,)): 3, ((0,), (1,)): 1, ((0, 1), (1,)): 3}
        self.assertEqual(untouched(self, bar_product, book, one, other), wanted)
        self.assertTrue(is_ascending(bar_product(book, one, other)))
        # The same bar may come of two products.
        both = {((0,),): 1, ((0,), (0,)): 1}
        self.assertEqual(bar_product(book, both, both), {((0,), (0,)): 1, ((0,), (0,), (0,)): 2})
        self.assertEqual(bar_product(book, {((0,), (0,)): 1}, {((0,), (0,)): 1}), {})


class CountsTest(unittest.TestCase):
    def test_by_hand(self):
        self.assertEqual(ladder_counts(LetterBook(5, 1, 4, [{(0, 0, 0): 1}])), {(1, 1): 1, (2, 3): 1, (3, 4): 1})
        self.assertEqual(ladder_counts(LetterBook(2, 1, 6, [{(0, 0): 1}])), {(k, k): 1 for k in range(1, 7)})
        self.assertEqual(ladder_counts(LetterBook(3, 2, 5, [])), {(1, 1): 2})
        self.assertEqual(ladder_counts(LetterBook(3, 0, 5, [])), {})
        turning = LetterBook(3, 2, 4, [{(1, 0): 1, (0, 1): 2}])
        self.assertEqual(ladder_counts(turning), {(1, 1): 2, (2, 2): 1})

    def test_by_ranks(self):
        for book in small_books():
            found = untouched(self, ladder_counts, book)
            listed = bars(book)
            wanted = {}
            for floor in range(1, book.most + 1):
                for length in range(1, book.most + 1):
                    here = [bar for bar in listed if (len(bar), length_of(bar)) == (floor, length)]
                    below = [bar for bar in listed if (len(bar), length_of(bar)) == (floor - 1, length)]
                    lost = rank([bar_step(book, {bar: 1}) for bar in here], book.prime)
                    made = rank([bar_step(book, {bar: 1}) for bar in below], book.prime)
                    if len(here) - lost - made:
                        wanted[floor, length] = len(here) - lost - made
            self.assertEqual(found, wanted)
            self.assertEqual(list(found), sorted(found))
            self.assertTrue(all(number > 0 for number in found.values()))

    def test_the_sum_over_the_ladder(self):
        for book in small_books():
            counts = ladder_counts(book)
            many = [len(rest_texts(book, length)) for length in range(book.most + 1)]
            for length in range(1, book.most + 1):
                total = sum(sign(floor) * number * many[length - n] for (floor, n), number in counts.items()
                            if n <= length)
                self.assertEqual(total + many[length], 0)

    def test_letters_and_needed_rules(self):
        needed = 0
        for book in small_books():
            counts = ladder_counts(book)
            self.assertEqual(counts.get((1, 1), 0), book.letters)
            self.assertFalse([pair for pair in counts if pair[0] == 1 and pair != (1, 1)])
            self.assertTrue(all(floor <= length for floor, length in counts))
            # Rules that shorter ones do not make nothing: as many are needed as add to these.
            for length in range(2, book.most + 1):
                shorter = LetterBook(book.prime, book.letters, book.most,
                                     [rule for rule in book.rules if len(min(rule)) < length])
                own = [rest(shorter, rule) for rule in book.rules if len(min(rule)) == length]
                self.assertEqual(counts.get((2, length), 0), rank(own, book.prime))
                needed += rank(own, book.prime)
                self.assertTrue(all(is_nothing(book, rule) for rule in own))
        self.assertGreater(needed, 20)


if __name__ == "__main__":
    unittest.main()
