import random
import unittest
from itertools import permutations

from leftproducts.barchoices import bar_choice
from leftproducts.bars import ladder_counts
from leftproducts.errors import BadLengths, BadMany, BadNumber, BadRules, TooMany
from leftproducts.ladders import ladder_lengths, ladder_many
from leftproducts.letterbooks import LetterBook
from leftproducts.many import Many
from leftproducts.moves import moved_many
from leftproducts.toldback import is_level, stands_by_turns, told_book, told_rules
from tests.books import NO_MANYS
from tests.helpers import JUNK, is_ascending, refused, untouched
from tests.letters import other_bar_choice, small_books, texts
from tests.test_bars import book_of
from tests.test_ladders import ladder_books
from tests.test_letterbooks import NO_BOOKS


def in_sequence(many, lengths, order):
    """The same book and lengths with the places in another sequence: order[k] becomes k."""
    rows = {(place,): {k: 1} for k, place in enumerate(order)}
    lead = moved_many(many, [many.heights[place] for place in order], rows)
    return lead.other, tuple(lengths[place] for place in order)


def rules_by_texts(many, lengths):
    """told_rules, text by text."""
    letters = [place for place, height in enumerate(many.heights) if height == 1]
    found = []
    for place, height in enumerate(many.heights):
        if height == 2 and 2 <= lengths[place] <= many.most:
            rule = {}
            for text in texts(len(letters), lengths[place]):
                number = many.products.get(tuple(letters[k] for k in text), {}).get(place, 0)
                if number:
                    rule[text] = number
            found.append(rule)
    return tuple(found)


class ToldRulesTest(unittest.TestCase):
    def test_by_hand(self):
        book = LetterBook(5, 1, 4, [{(0, 0, 0): 1}])
        self.assertEqual(ladder_counts(book), {(1, 1): 1, (2, 3): 1, (3, 4): 1})
        for choice in [bar_choice(book)] + [other_bar_choice(book, seed) for seed in range(4)]:
            many = ladder_many(book, choice)
            rules = told_rules(many, ladder_lengths(book))
            self.assertEqual(len(rules), 1)
            self.assertEqual(list(rules[0]), [(0, 0, 0)])
            self.assertNotIn((0, 0), many.products)
            self.assertEqual(told_book(many, ladder_lengths(book)), book)
        many = ladder_many(book, bar_choice(book))
        self.assertIn(told_rules(many, (1, 3, 4)), (({(0, 0, 0): 1},), ({(0, 0, 0): 4},)))

    def test_against_texts(self):
        for book in ladder_books():
            for choice in (bar_choice(book), other_bar_choice(book, 3)):
                many, lengths = ladder_many(book, choice), ladder_lengths(book)
                rules = untouched(self, told_rules, many, lengths)
                self.assertEqual(rules, rules_by_texts(many, lengths))
                self.assertIsInstance(rules, tuple)
                for rule in rules:
                    self.assertTrue(rule and is_ascending(rule))

    def test_letters_are_numbered_among_themselves(self):
        # Places 1 and 3 are the letters; places of other heights come into no text.
        many = Many(7, [2, 1, 0, 1, 3, 2, 2], 3, {(1, 3): {0: 3}, (3, 3): {0: 9, 5: 1}, (2, 6): {0: 1, 5: 2},
                                                  (3, 1): {0: 7}})
        self.assertEqual(told_rules(many, (2, 1, 1, 1, 1, 2, 1)), ({(0, 1): 3, (1, 1): 2}, {(1, 1): 1}))
        self.assertEqual(told_book(many, (2, 1, 1, 1, 1, 2, 1)), LetterBook(7, 2, 3, [{(1, 1): 1}, {(0, 1): 1}]))

    def test_which_places_tell(self):
        # One of length 1, one longer than most, one without a product, and none of other heights.
        many = Many(3, [1, 2, 2, 2, 3], 3, {(0, 0): {3: 1}, (0, 3): {4: 1}, (3, 0): {4: 2}})
        self.assertEqual(told_rules(many, (1, 1, 4, 2, 3)), ({(0, 0): 1},))
        self.assertEqual(told_rules(many, (1, 3, 2, 2, 3)), ({}, {}, {(0, 0): 1}))
        self.assertEqual(told_book(many, (1, 3, 2, 2, 3)), LetterBook(3, 1, 3, [{(0, 0): 1}]))
        # A word of other length than the place's would not be kept; of as many letters it counts alone.
        many = Many(2, [1, 2, 2], 4, {(0, 0, 0): {1: 1}, (0, 0, 0, 0): {2: 1}})
        self.assertEqual(told_rules(many, (1, 3, 4)), ({(0, 0, 0): 1}, {(0, 0, 0, 0): 1}))

    def test_words_with_other_places_among_letters(self):
        many = Many(3, [1, 0, 2, 2], 3, {(0, 1, 2): {3: 1}, (0, 0, 0): {3: 2}})
        self.assertEqual(told_rules(many, (1, 1, 1, 3)), ({(0, 0, 0): 2},))
        self.assertEqual(told_rules(Many(3, [1, 0, 2, 2], 3, {(0, 1, 2): {3: 1}}), (1, 1, 1, 3)), ({},))

    def test_letters_alone_and_none(self):
        self.assertEqual(told_rules(Many(3, [1, 1, 1], 4, {}), (1, 1, 1)), ())
        self.assertEqual(told_book(Many(3, [1, 1, 1], 4, {}), (1, 1, 1)), LetterBook(3, 3, 4, []))
        self.assertEqual(told_rules(Many(3, [2, 2, 4], 2, {}), (2, 5, 1)), ({},))
        self.assertEqual(told_book(Many(3, [2, 2, 4], 2, {}), (2, 5, 1)), LetterBook(3, 0, 2, []))
        self.assertEqual(told_rules(many=Many(2, [], 1, {}), lengths=()), ())
        self.assertEqual(told_book(many=Many(2, [], 1, {}), lengths=()), LetterBook(2, 0, 1, []))

    def test_many_letters(self):
        many = Many(3, [1] * 4 + [2], 2, {(0, 3): {4: 1}, (3, 2): {4: 2}})
        self.assertEqual(told_rules(many, (1, 1, 1, 1, 2)), ({(0, 3): 1, (3, 2): 2},))
        refused(self, BadNumber, "part", "letters", told_book, many, (1, 1, 1, 1, 2))
        many = Many(3, [1] * 4 + [2], 8, {})
        self.assertEqual(told_rules(many, (1, 1, 1, 1, 8)), ({},))
        refused(self, BadNumber, "part", "letters", told_book, many, (1, 1, 1, 1, 8))
        many = Many(3, [1] * 3, 7, {})
        self.assertEqual(told_rules(many, (1, 1, 1)), ())
        refused(self, BadNumber, "part", "most", told_book, many, (1, 1, 1))
        self.assertEqual(told_rules(Many(5, [1] * 32, 8, {}), (1,) * 32), ())

    def test_lengths_of_the_wrong_kind(self):
        many = Many(3, [1, 2, 3], 3, {(0, 0): {1: 1}, (0, 1): {2: 2}, (1, 0): {2: 1}})
        self.assertEqual(told_rules(many, (1, 2, 3)), ({(0, 0): 1},))
        for function in (told_rules, told_book):
            for junk in JUNK + ([1, 2, 3], (1, 2), (1, 2, 3, 4), (1, 2, True), (1, 2, "3"), (1, 2, 3.0), (1, 2, None),
                                (True, 2, 3), (1, 2, 0), (1, 2, -3), {0: 1, 1: 2, 2: 3}, "123"):
                refused(self, BadLengths, None, None, function, many, junk)
            # A letter of another length, and products that do not keep the length of their word.
            for lengths in ((2, 4, 6), (2, 2, 3), (1, 1, 2), (1, 3, 4), (1, 2, 4), (1, 2, 2)):
                refused(self, BadLengths, None, None, function, many, lengths)

    def test_lengths_of_words_of_one_place(self):
        many = Many(3, [2, 3], 2, {(0,): {1: 1}})
        self.assertEqual(told_rules(many, (2, 2)), ({},))
        refused(self, BadLengths, None, None, told_rules, many, (2, 3))
        # One place of a product that keeps the length is not enough; a length below 1 is none, without products, too.
        many = Many(3, [1, 2, 2], 2, {(0, 0): {1: 1, 2: 1}})
        for lengths in ((1, 2, 3), (1, 1, 2)):
            refused(self, BadLengths, None, None, told_rules, many, lengths)
        for length in (0, -1):
            refused(self, BadLengths, None, None, told_rules, Many(3, [2], 3, {}), (length,))
        # A number of rest 0 is none.
        many = Many(3, [1, 2, 2], 2, {(0, 0): {1: 1, 2: 3}})
        self.assertEqual(told_rules(many, (1, 2, 5)), ({(0, 0): 1},))

    def test_sequence_of_errors(self):
        for junk in NO_MANYS:
            for function in (told_rules, told_book):
                refused(self, BadMany, "part", None, function, junk, None)
        refused(self, BadLengths, None, None, told_book, Many(3, [1] * 4, 8, {}), (1, 1, 1))


class ToldBackTest(unittest.TestCase):
    def test_for_all_choices(self):
        looked, longer = 0, 0
        for book in ladder_books():
            for choice in [bar_choice(book)] + [other_bar_choice(book, seed) for seed in (1, 2, 3)]:
                many = ladder_many(book, choice)
                back = untouched(self, told_book, many, ladder_lengths(book))
                self.assertEqual(back, book)
                self.assertEqual((back.prime, back.letters, back.most), (book.prime, book.letters, book.most))
                looked += bool(back.rules)
                longer += any(len(min(rule)) > 2 for rule in back.rules)
        self.assertGreater(looked, 30)
        self.assertGreater(longer, 20)

    def test_no_told_rule_is_nothing_by_the_others(self):
        for book in ladder_books():
            back = told_book(ladder_many(book, other_bar_choice(book, 4)), ladder_lengths(book))
            for k in range(len(back.rules)):
                rules = back.rules[:k] + back.rules[k + 1:]
                self.assertNotEqual(LetterBook(book.prime, book.letters, book.most, rules), book)

    def test_whatever_the_sequence_of_the_places(self):
        rnd = random.Random(6)
        turned = 0
        for book in ladder_books():
            many, lengths = ladder_many(book, bar_choice(book)), ladder_lengths(book)
            order = list(range(len(lengths)))
            rnd.shuffle(order)
            other, told = in_sequence(many, lengths, order)
            # The letters in their sequence: the k-th letter is now letter kept[k] of the book.
            kept = [place for place in order if many.heights[place] == 1]
            rules = [{tuple(kept.index(k) for k in text): number for text, number in rule.items()}
                     for rule in book.rules]
            self.assertEqual(told_book(other, told), LetterBook(book.prime, book.letters, book.most, rules))
            self.assertEqual(told_rules(other, told), rules_by_texts(other, told))
            turned += kept != sorted(kept)
        self.assertGreater(turned, 5)
        book = LetterBook(5, 1, 4, [{(0, 0, 0): 1}])
        many, lengths = ladder_many(book, bar_choice(book)), ladder_lengths(book)
        for order in permutations(range(3)):
            self.assertEqual(told_book(*in_sequence(many, lengths, order)), book)


class LevelTest(unittest.TestCase):
    def test_by_hand(self):
        self.assertIs(is_level(LetterBook(3, 2, 3, [{(1, 0): 1, (0, 1): 2}])), True)
        self.assertIs(is_level(LetterBook(2, 1, 6, [{(0, 0): 1}])), True)
        self.assertIs(is_level(LetterBook(5, 1, 4, [{(0, 0, 0): 1}])), False)
        self.assertIs(is_level(LetterBook(5, 3, 3, [{}, {(0, 0): 1}, {(1, 2): 1}])), True)
        self.assertIs(is_level(book=LetterBook(5, 0, 6, [])), True)
        # Rules of two letters alone, and yet it is not level: that is seen from words of four letters on.
        rules = [{(1, 0): 1}, {(0, 1): 1, (1, 1): 2}]
        book = LetterBook(3, 2, 4, rules)
        self.assertEqual(ladder_counts(book), {(1, 1): 2, (2, 2): 2, (3, 3): 1, (3, 4): 1})
        self.assertIs(is_level(book), False)
        self.assertIs(is_level(LetterBook(3, 2, 3, rules)), True)

    def test_exactly_if_there_are_products_of_two_alone(self):
        both = {True: 0, False: 0}
        for book in ladder_books():
            level = untouched(self, is_level, book)
            for choice in (bar_choice(book), other_bar_choice(book, 5)):
                many = ladder_many(book, choice)
                self.assertEqual(level, all(len(word) == 2 for word in many.products))
                if level:
                    self.assertTrue(all(len(min(rule)) == 2 for rule in told_rules(many, ladder_lengths(book))))
            both[level] += 1
        self.assertGreater(min(both.values()), 5)

    def test_errors(self):
        for junk in NO_BOOKS:
            refused(self, BadRules, None, None, is_level, junk)
        refused(self, TooMany, "most", 700, is_level, book_of(701))
        self.assertIs(is_level(book_of(700)), False)
        for book in small_books():
            self.assertEqual(is_level(book), all(floor == length for floor, length in ladder_counts(book)))


class TurnsTest(unittest.TestCase):
    def books(self):
        found = [LetterBook(5, 1, 6, [{(0,) * n: 1}]) for n in (2, 3, 4, 5, 6)]
        found += [LetterBook(3, 2, 4, [{text: 1} for text in texts(2, 3)]), LetterBook(2, 2, 4, []),
                  LetterBook(7, 2, 3, [{(0, 0, 1): 1, (0, 1, 0): 5, (1, 0, 0): 1}, {(1, 1, 0): 1}]),
                  LetterBook(3, 2, 4, [{(0, 0): 1}, {(1, 1, 1): 1}]), LetterBook(3, 2, 4, [{(0, 1): 1}])]
        return found + [book for book in ladder_books() if book.most >= 3]

    def test_by_hand(self):
        for n in (3, 4, 5, 6):
            book = LetterBook(5, 1, 6, [{(0,) * n: 1}])
            self.assertEqual([k for k in range(3, 7) if stands_by_turns(book, k)], [n])
        # Without rules there are letters alone, with rules of two letters it stands by no turns.
        self.assertIs(stands_by_turns(LetterBook(2, 2, 4, []), 4), True)
        self.assertIs(stands_by_turns(book=LetterBook(2, 0, 3, []), length=3), True)
        self.assertIs(stands_by_turns(LetterBook(3, 2, 4, [{(0, 1): 1}]), 3), False)
        self.assertIs(stands_by_turns(LetterBook(5, 1, 6, [{(0, 0): 1}]), 3), False)

    def test_by_counts(self):
        stands = 0
        for book in self.books():
            for length in range(3, book.most + 1):
                wanted = True
                for floor, letters in ladder_counts(book):
                    half, odd = divmod(floor, 2)
                    wanted = wanted and letters == half * length + odd
                self.assertIs(untouched(self, stands_by_turns, book, length), wanted)
                stands += wanted
        self.assertGreater(stands, 10)

    def test_products_of_two_and_of_length_alone(self):
        three = 0
        for book in self.books():
            for length in range(3, book.most + 1):
                if stands_by_turns(book, length) and sum(ladder_counts(book).values()) <= 32:
                    for choice in (bar_choice(book), other_bar_choice(book, 1), other_bar_choice(book, 2)):
                        many = ladder_many(book, choice)
                        self.assertTrue({len(word) for word in many.products} <= {2, length})
                        three += any(len(word) == length for word in many.products)
        self.assertGreater(three, 10)

    def test_errors(self):
        for junk in NO_BOOKS:
            refused(self, BadRules, None, None, stands_by_turns, junk, None)
        book = LetterBook(5, 1, 4, [{(0, 0, 0): 1}])
        for length in (2, 5, 0, -3, True, None, "3", 3.0, (3,)):
            refused(self, BadNumber, "part", "length", stands_by_turns, book, length)
        for length in (1, 2, 3):
            refused(self, BadNumber, "part", "length", stands_by_turns, LetterBook(5, 1, 2, []), length)
        refused(self, BadNumber, "part", "length", stands_by_turns, book_of(701), 5)
        refused(self, TooMany, "most", 700, stands_by_turns, book_of(701), 3)
        self.assertIs(stands_by_turns(book_of(700), 4), True)
        self.assertIs(stands_by_turns(book_of(700), 3), False)


if __name__ == "__main__":
    unittest.main()
