import random
import unittest

from leftproducts.barchoices import bar_choice
from leftproducts.bars import bar_product, bars, ladder_counts
from leftproducts.errors import BadChoice, BadRules, TooMany
from leftproducts.ladders import ladder_lengths, ladder_many
from leftproducts.letterbooks import LetterBook
from leftproducts.many import Many
from tests.helpers import JUNK, clean, cuts, is_ascending, plus, rank, refused, rule_left, sign, spread, untouched
from tests.letters import other_bar_choice, small_books, texts
from tests.test_bars import book_of
from tests.test_letterbooks import NO_BOOKS


def words_of_length(lengths, most):
    """All words of leftovers of at most most letters in all."""
    found = []
    begun = [()]
    while begun:
        begun = [word + (k,) for word in begun for k in range(len(lengths))
                 if sum(lengths[place] for place in word) + lengths[k] <= most]
        found += begun
    return found


def by_trees(book, choice):
    """The products of words of two leftovers and more, as point 73 tells them, word by word."""
    within, onto, undo = choice
    prime = book.prime
    into = {(k,): clean(row, prime) for k, row in enumerate(within)}
    found = {}
    words = words_of_length(ladder_lengths(book), book.most)
    for word in sorted(words, key=len):
        if len(word) > 1:
            both = {}
            for one, other in cuts(word, 2):
                signed = {bar: sign(len(bar)) * number for bar, number in into[one].items()}
                plus(both, bar_product(book, signed, into[other]), 1)
            found[word] = spread(onto, both, prime)
            into[word] = spread(undo, both, prime)
    return {word: row for word, row in sorted(found.items()) if row}


def ladder_books():
    return [book for book in small_books() if sum(ladder_counts(book).values()) <= 32]


class LengthsTest(unittest.TestCase):
    def test_as_counted(self):
        for book in small_books():
            lengths = untouched(self, ladder_lengths, book)
            wanted = [length for (_, length), number in sorted(ladder_counts(book).items()) for _ in range(number)]
            self.assertEqual(lengths, tuple(wanted))
        self.assertEqual(ladder_lengths(LetterBook(5, 1, 4, [{(0, 0, 0): 1}])), (1, 3, 4))
        self.assertEqual(ladder_lengths(book=LetterBook(5, 0, 4, [])), ())
        for junk in NO_BOOKS:
            refused(self, BadRules, None, None, ladder_lengths, junk)
        refused(self, TooMany, "most", 700, ladder_lengths, book_of(701))
        self.assertEqual(ladder_lengths(book_of(700)), (1,) * 3 + (4,) * 77)


class LadderManyTest(unittest.TestCase):
    def test_by_hand(self):
        book = LetterBook(5, 1, 4, [{(0, 0, 0): 1}])
        for choice in (bar_choice(book), other_bar_choice(book, 1)):
            many = ladder_many(book, choice)
            self.assertEqual((many.prime, many.heights, many.most), (5, (1, 2, 3), 4))
            # x x x is told by the rule, x x by none.
            self.assertEqual(list(many.products[0, 0, 0]), [1])
            self.assertNotIn((0, 0), many.products)
        # Letters that change places: x y and y x, together nothing but for the sign.
        book = LetterBook(3, 2, 3, [{(1, 0): 1, (0, 1): 2}])
        many = ladder_many(book, bar_choice(book))
        self.assertEqual(many.heights, (1, 1, 2))
        self.assertEqual(set(many.products), {(0, 1), (1, 0)})
        self.assertEqual((many.products[0, 1][2] + many.products[1, 0][2]) % 3, 0)
        # Without rules there are the letters alone.
        book = LetterBook(7, 3, 2, [])
        self.assertEqual(ladder_many(book, bar_choice(book)), Many(7, [1, 1, 1], 2, {}))
        self.assertEqual(ladder_many(LetterBook(7, 0, 3, []), ((), {}, {})), Many(7, [], 3, {}))
        # x x nothing: a leftover on each floor, and the products of two of them lead up.
        book = LetterBook(3, 1, 4, [{(0, 0): 1}])
        many = ladder_many(book, bar_choice(book))
        self.assertEqual(many.heights, (1, 2, 3, 4))
        self.assertEqual(set(many.products), {(0, 0), (0, 1), (1, 0), (0, 2), (1, 1), (2, 0)})

    def test_by_trees(self):
        longer = 0
        for book in ladder_books():
            for choice in (bar_choice(book), other_bar_choice(book, 2), other_bar_choice(book, 3)):
                many = untouched(self, ladder_many, book, choice)
                self.assertEqual(many.products, by_trees(book, choice))
                self.assertTrue(is_ascending(many.products))
                floors = [floor for (floor, _), number in sorted(ladder_counts(book).items()) for _ in range(number)]
                self.assertEqual((many.prime, many.heights, many.most), (book.prime, tuple(floors), book.most))
                longer += any(len(word) > 2 for word in many.products)
        self.assertGreater(longer, 10)

    def test_it_is_a_many(self):
        for book in ladder_books():
            for choice in (bar_choice(book), other_bar_choice(book, 4)):
                many = ladder_many(book, choice)
                lengths = ladder_lengths(book)
                for word in words_of_length(lengths, book.most):
                    self.assertEqual(rule_left(many.prime, many.heights, many.products, word), {})
                self.assertEqual(Many(many.prime, many.heights, many.most, many.products), many)

    def test_lengths_of_words(self):
        for book in ladder_books():
            many, lengths = ladder_many(book, other_bar_choice(book, 5)), ladder_lengths(book)
            for word, row in many.products.items():
                self.assertEqual({lengths[place] for place in row}, {sum(lengths[place] for place in word)})

    def test_each_leftover_but_letters_is_a_sum_of_products(self):
        looked = 0
        for book in ladder_books():
            for choice in (bar_choice(book), other_bar_choice(book, 6)):
                many = ladder_many(book, choice)
                above = [{k: 1} for k, floor in enumerate(many.heights) if floor > 1]
                rows = list(many.products.values())
                self.assertEqual(rank(rows + above, many.prime), rank(rows, many.prime))
                looked += bool(above)
        self.assertGreater(looked, 30)

    def test_noughts_in_the_choice(self):
        book = LetterBook(3, 2, 3, [{(1, 0): 1, (0, 1): 2}, {(0, 0, 0): 1}])
        within, onto, undo = bar_choice(book)
        shifted = (tuple({bar: number + 3 for bar, number in row.items()} for row in within),
                   {bar: {k: number - 6 for k, number in row.items()} for bar, row in onto.items()},
                   {bar: {**{low: number - 3 for low, number in row.items()}, ((1,),): 3} for bar, row in undo.items()})
        self.assertEqual(ladder_many(book, shifted), ladder_many(book, (within, onto, undo)))

    def test_rules_are_told_back(self):
        # The products of letters at a leftover of floor 2 are a rule that is needed.
        rnd = random.Random(7)
        for book in ladder_books():
            choice = other_bar_choice(book, rnd.randrange(9))
            many, lengths = ladder_many(book, choice), ladder_lengths(book)
            rules = []
            for place, floor in enumerate(many.heights):
                if floor == 2:
                    words = texts(book.letters, lengths[place])
                    rules.append({word: many.products.get(word, {}).get(place, 0) for word in words})
            self.assertEqual(LetterBook(book.prime, book.letters, book.most, rules), book)

    def test_errors(self):
        book = LetterBook(5, 1, 4, [{(0, 0, 0): 1}])
        choice = bar_choice(book)
        for junk in NO_BOOKS:
            refused(self, BadRules, None, None, ladder_many, junk, None)
        refused(self, TooMany, "most", 700, ladder_many, book_of(701), None)
        other = LetterBook(5, 1, 4, [{(0, 0): 1}])
        for junk in JUNK + (list(choice), choice[:2], bar_choice(other), ((),) + choice[1:]):
            refused(self, BadChoice, None, None, ladder_many, book, junk)
        self.assertEqual(ladder_many(choice=choice, book=book).heights, (1, 2, 3))

    def test_too_many_leftovers(self):
        squares = [{(a, b): 1} for a in range(3) for b in range(3)]
        # 3, 9, 27: with most 2 there are 12 leftovers, with most 3 there are 39.
        book = LetterBook(3, 3, 2, squares)
        self.assertEqual(len(ladder_many(book, bar_choice(book)).heights), 12)
        book = LetterBook(3, 3, 3, squares)
        self.assertEqual(len(bars(book)), 39)
        refused(self, TooMany, "most", 32, ladder_many, book, bar_choice(book))
        refused(self, BadChoice, None, None, ladder_many, book, None)
        # With one square less there are 8 and, of three letters, those words in which it is not: 21 and 22.
        for lacking, many in (((0, 1), 32), ((0, 0), 33)):
            book = LetterBook(3, 3, 3, [rule for rule in squares if lacking not in rule])
            choice = bar_choice(book)
            self.assertEqual(len(choice[0]), many)
            if many == 32:
                self.assertEqual(len(ladder_many(book, choice).heights), 32)
            else:
                refused(self, TooMany, "most", 32, ladder_many, book, choice)


if __name__ == "__main__":
    unittest.main()
