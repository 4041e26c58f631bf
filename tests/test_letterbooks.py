import random
import unittest

from leftproducts.errors import BadNumber, BadPrime, BadRow, BadRules
from leftproducts.letterbooks import LetterBook, rest, rest_texts
from leftproducts.many import Many
from tests.helpers import JUNK, clean, is_ascending, plus, refused, untouched
from tests.letters import is_head, is_nothing, nothings, random_rules, small_books, texts

NO_BOOKS = (None, 0, True, "x", {}, [], (), LetterBook, Many(3, [1], 2, {}))


class LetterBookTest(unittest.TestCase):
    def test_attributes(self):
        rules = [{(1, 0): 4, (0, 1): -1}, {}, {(0, 0): 3}, {(1, 1, 1): 2, (0, 0, 0): 3}]
        book = untouched(self, LetterBook, 3, 2, 4, rules)
        self.assertEqual((book.prime, book.letters, book.most), (3, 2, 4))
        self.assertEqual(book.rules, ({(0, 1): 2, (1, 0): 1}, {(1, 1, 1): 2}))
        self.assertIsInstance(book.rules, tuple)
        self.assertTrue(all(is_ascending(rule) for rule in book.rules))
        rules[0][0, 0] = 1
        self.assertEqual(book.rules[0], {(0, 1): 2, (1, 0): 1})
        self.assertEqual(LetterBook(rules=(), most=1, letters=0, prime=2).rules, ())
        # Doubled rules stay.
        self.assertEqual(LetterBook(3, 1, 2, [{(0, 0): 1}, {(0, 0): 2}]).rules, ({(0, 0): 1}, {(0, 0): 2}))

    def test_errors_in_turn(self):
        for prime in (None, 0, 1, 4, 37, True, "3", 3.0):
            refused(self, BadPrime, None, None, LetterBook, prime, None, None, None)
        for letters in (None, -1, 4, True, "1", 1.0):
            refused(self, BadNumber, "part", "letters", LetterBook, 3, letters, None, None)
        for most in (None, 0, 7, -1, True, "1", 1.0):
            refused(self, BadNumber, "part", "most", LetterBook, 3, 2, most, None)
        for junk in (None, 0, True, "x", {}, {(0, 0): 1}, [None], [0], [[]], [()], ["x"], [{}, None]):
            refused(self, BadRules, None, None, LetterBook, 3, 2, 4, junk)
        for text in ((), (0,), (0,) * 5, (2, 0), (-1, 0), (True, 0), (0, 1.0), "00", 0, None, ("0", "0"), ((0,), (0,))):
            refused(self, BadRules, None, None, LetterBook, 3, 2, 4, [{(0, 0): 1}, {text: 1}])
        for number in (None, True, "1", 1.0, (1,)):
            refused(self, BadRules, None, None, LetterBook, 3, 2, 4, [{(0, 0): number}])
        refused(self, BadRules, None, None, LetterBook, 3, 2, 4, [{(0, 0): 1, (0, 0, 0): 1}])
        refused(self, BadRules, None, None, LetterBook, 3, 2, 1, [{(0, 0): 1}])
        refused(self, BadRules, None, None, LetterBook, 3, 0, 4, [{(0, 0): 1}])
        LetterBook(3, 2, 4, [{(0, 0): 1}, {(0, 0, 0): 1, (1, 1, 1): 0}])

    def test_equal_if_the_same_sums_are_nothing(self):
        book = LetterBook(3, 2, 4, [{(0, 1): 1, (1, 0): 2}, {(0, 0): 1}])
        for rules in ([{(0, 0): 2}, {(1, 0): 1, (0, 1): -1}], [{(0, 0): 1, (0, 1): 1, (1, 0): 2}, {(0, 0): -1}],
                      ({(0, 0): 1}, {(0, 0): 4}, {(0, 1): 1, (1, 0): 2}, {}, {(0, 0): 3}),
                      # Rules that are not needed.
                      [{(0, 1): 1, (1, 0): 2}, {(0, 0): 1}, {(1, 0, 0): 1}, {(0, 1, 0, 0): 1, (0, 1, 0, 1): 1}]):
            self.assertEqual(LetterBook(3, 2, 4, rules), book)
            self.assertFalse(LetterBook(3, 2, 4, rules) != book)
        for other in (LetterBook(3, 2, 4, [{(0, 0): 1}]), LetterBook(3, 2, 4, []), LetterBook(3, 2, 3, book.rules),
                      LetterBook(3, 3, 4, book.rules), LetterBook(2, 2, 4, book.rules), LetterBook(5, 2, 4, book.rules),
                      LetterBook(3, 2, 4, [{(0, 1): 1, (1, 0): 1}, {(0, 0): 1}]),
                      LetterBook(3, 2, 4, [*book.rules, {(1, 1, 1, 1): 1}])):
            self.assertNotEqual(other, book)
        # x x y is nothing by the first two rules, as y x is x y.
        short = [{(0, 1): 1, (1, 0): 2}, {(0, 0, 1): 1}]
        self.assertEqual(LetterBook(3, 2, 3, short), LetterBook(3, 2, 3, short + [{(0, 1, 0): 1}]))
        self.assertNotEqual(LetterBook(3, 2, 3, short), LetterBook(3, 2, 3, short + [{(0, 1, 1): 1}]))
        self.assertEqual(LetterBook(3, 0, 4, []), LetterBook(3, 0, 4, [{}]))
        for junk in NO_BOOKS:
            self.assertNotEqual(book, junk)

    def test_equal_against_ranks(self):
        rnd = random.Random(1)
        told = {True: 0, False: 0}
        books = []
        for _ in range(60):
            rules = []
            for _ in range(rnd.randrange(4)):
                length = rnd.choice((2, 3))
                rules.append({text: rnd.randrange(2) for text in rnd.sample(texts(2, length), 2)})
            books.append(LetterBook(2, 2, 3, rules))
        for one in books:
            for other in books:
                wanted = all(is_nothing(other, rule) for rule in one.rules) and all(
                    is_nothing(one, rule) for rule in other.rules)
                self.assertIs(one == other, wanted)
                told[wanted] += 1
        self.assertTrue(min(told.values()) > 80)


class RestTest(unittest.TestCase):
    def test_by_hand(self):
        book = LetterBook(3, 2, 3, [{(1, 0): 1, (0, 1): 2}])
        self.assertEqual(rest_texts(book, 2), [(0, 0), (0, 1), (1, 1)])
        self.assertEqual(rest(book, {(1, 0): 1}), {(0, 1): 1})
        self.assertEqual(rest(book, {(1, 1, 0): 1, (1, 0, 1): 4, (): 2, (0,): 3}), {(): 2, (0, 1, 1): 2})
        self.assertEqual(rest_texts(book, 0), [()])
        self.assertEqual(rest_texts(book, 1), [(0,), (1,)])
        self.assertEqual(rest(book, {}), {})
        free = LetterBook(5, 0, 6, [])
        self.assertEqual([rest_texts(free, k) for k in range(7)], [[()], [], [], [], [], [], []])
        self.assertEqual(rest(free, {(): 7}), {(): 2})

    def test_rest_texts_are_no_heads(self):
        for book in small_books():
            for length in range(book.most + 1):
                wanted = [text for text in texts(book.letters, length) if not is_head(book, text)]
                found = untouched(self, rest_texts, book, length)
                self.assertEqual(found, wanted)
                self.assertIsInstance(found, list)
                found.append(None)
                self.assertEqual(rest_texts(book, length), wanted)

    def test_rest_differs_by_what_is_nothing(self):
        rnd = random.Random(2)
        for book in small_books():
            for _ in range(6):
                names = [text for length in range(book.most + 1) for text in texts(book.letters, length)]
                row = {text: rnd.randrange(-book.prime, 2 * book.prime) for text in rnd.sample(names, min(5, len(names)))}
                found = untouched(self, rest, book, row)
                self.assertTrue(is_ascending(found))
                self.assertEqual(found, clean(found, book.prime))
                for length in range(book.most + 1):
                    part = {text: number for text, number in found.items() if len(text) == length}
                    self.assertTrue(all(not is_head(book, text) for text in part))
                    plus(part, {text: number for text, number in row.items() if len(text) == length}, -1)
                    self.assertTrue(is_nothing(book, part))
                self.assertEqual(rest(book, found), found)

    def test_what_is_nothing_has_no_rest(self):
        for book in small_books():
            for length in range(2, min(book.most, 4) + 1):
                for row in nothings(book, length):
                    self.assertEqual(rest(book, row), {})

    def test_larger_books(self):
        turning = [{(b, a): 1, (a, b): -1} for a in range(3) for b in range(a + 1, 3)]
        book = LetterBook(31, 3, 6, turning)
        self.assertEqual([len(rest_texts(book, k)) for k in range(7)], [1, 3, 6, 10, 15, 21, 28])
        self.assertEqual(rest(book, {(2, 1, 0, 2, 1, 0): 1}), {(0, 0, 1, 1, 2, 2): 1})
        self.assertEqual([len(rest_texts(LetterBook(2, 3, 6, []), k)) for k in range(7)], [3 ** k for k in range(7)])
        rnd = random.Random(3)
        for prime in (2, 31):
            book = LetterBook(prime, 2, 6, random_rules(rnd, prime, 2, 4) + [{(0, 0): 1}])
            self.assertTrue(all((0, 0) not in zip(text, text[1:]) for text in rest_texts(book, 6)))

    def test_errors(self):
        book = LetterBook(3, 2, 3, [{(1, 0): 1, (0, 1): 2}])
        for junk in NO_BOOKS:
            refused(self, BadRules, None, None, rest_texts, junk, None)
            refused(self, BadRules, None, None, rest, junk, None)
        for length in (None, -1, 4, True, "1", 1.0):
            refused(self, BadNumber, "part", "length", rest_texts, book, length)
        for junk in [thing for thing in JUNK if thing != {}]:
            refused(self, BadRow, None, None, rest, book, junk)
        for text in ((2,), (-1,), (True,), (0, 0, 0, 0), "0", 0, None, ((0,),), (1.0,)):
            refused(self, BadRow, None, None, rest, book, {(0,): 1, text: 1})
        for number in (None, True, "1", 1.0):
            refused(self, BadRow, None, None, rest, book, {(0,): number})
        self.assertEqual(rest_texts(length=1, book=book), [(0,), (1,)])
        self.assertEqual(rest(texts={(0,): 4}, book=book), {(0,): 1})


if __name__ == "__main__":
    unittest.main()
