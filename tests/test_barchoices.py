import random
import unittest

from leftproducts.barchoices import bar_choice, is_bar_choice
from leftproducts.bars import bar_step, bars, ladder_counts
from leftproducts.errors import BadRules, TooMany
from leftproducts.letterbooks import LetterBook
from tests.helpers import JUNK, clean, is_ascending, plus, refused, spread, untouched
from tests.letters import other_bar_choice, small_books
from tests.test_bars import book_of, length_of
from tests.test_letterbooks import NO_BOOKS


def pairs_of_leftovers(book):
    return [pair for pair, number in sorted(ladder_counts(book).items()) for _ in range(number)]


def holds(book, thing):
    """What point 72 asks of a triple of a tuple and two dicts from all bars."""
    prime = book.prime
    within, onto, undo = thing
    pairs = pairs_of_leftovers(book)
    within = [clean(row, prime) for row in within]
    onto = {bar: clean(row, prime) for bar, row in onto.items()}
    undo = {bar: clean(row, prime) for bar, row in undo.items()}
    for k, row in enumerate(within):
        if {(len(bar), length_of(bar)) for bar in row} != {pairs[k]}:
            return False
        if pairs[k] == (1, 1) and row != {((k,),): 1}:
            return False
        if bar_step(book, row) or spread(onto, row, prime) != {k: 1} or spread(undo, row, prime):
            return False
    for bar in bars(book):
        pair, step = (len(bar), length_of(bar)), bar_step(book, {bar: 1})
        if {pairs[k] for k in onto[bar]} - {pair}:
            return False
        if {(len(low) + 1, length_of(low)) for low in undo[bar]} - {pair}:
            return False
        if spread(onto, step, prime) or spread(onto, undo[bar], prime) or spread(undo, undo[bar], prime):
            return False
        total = {bar: 1}
        plus(total, bar_step(book, undo[bar]), 1)
        plus(total, spread(undo, step, prime), 1)
        plus(total, spread(within, onto[bar], prime), -1)
        if clean(total, prime):
            return False
    return True


def copied(choice):
    within, onto, undo = choice
    return ([dict(row) for row in within], {bar: dict(row) for bar, row in onto.items()},
            {bar: dict(row) for bar, row in undo.items()})


X, XX = (0,), (0, 0)
# One letter, x x nothing beyond: two bars of length 2, one of length 1.
BOOK = LetterBook(3, 1, 2, [])
GOOD = (({(X,): 1},), {(X,): {0: 1}, (XX,): {}, (X, X): {}}, {(X,): {}, (XX,): {}, (X, X): {(XX,): 2}})


class IsBarChoiceTest(unittest.TestCase):
    def test_by_hand(self):
        within, onto, undo = GOOD
        self.assertIs(is_bar_choice(BOOK, GOOD), True)
        self.assertTrue(holds(BOOK, GOOD))
        # Noughts, numbers below 0 and beyond the prime, in whatever sequence.
        self.assertIs(is_bar_choice(BOOK, (({(X,): 4, (XX,): 3},), {(X, X): {0: 3}, (XX,): {0: 0}, (X,): {0: -2}},
                                           {(X, X): {(XX,): -1, (X,): 3}, (XX,): {(X, X): 0}, (X,): {}})), True)
        self.assertIs(is_bar_choice(BOOK, (within, onto, {**undo, (X, X): {(XX,): 1}})), False)
        self.assertIs(is_bar_choice(BOOK, (within, {**onto, (X,): {0: 2}}, undo)), False)
        self.assertIs(is_bar_choice(BOOK, (({(X,): 2},), {**onto, (X,): {0: 2}}, undo)), False)
        self.assertIs(is_bar_choice(LetterBook(3, 0, 2, []), ((), {}, {})), True)
        self.assertIs(is_bar_choice(LetterBook(3, 0, 2, []), (({},), {}, {})), False)
        # The letters stand for themselves, in their sequence.
        two = LetterBook(3, 2, 1, [])
        there, back = {((0,),): {0: 1}, ((1,),): {1: 1}}, {((0,),): {1: 1}, ((1,),): {0: 1}}
        nothing = {((0,),): {}, ((1,),): {}}
        self.assertIs(is_bar_choice(two, (({((0,),): 1}, {((1,),): 1}), there, nothing)), True)
        self.assertIs(is_bar_choice(two, (({((1,),): 1}, {((0,),): 1}), back, nothing)), False)

    def test_kinds(self):
        within, onto, undo = GOOD
        for junk in JUNK:
            self.assertIs(is_bar_choice(BOOK, junk), False)
        for wrong in ([within, onto, undo], (within, onto), (within, onto, undo, {}), (list(within), onto, undo),
                      ((), onto, undo), (within + ({},), onto, undo), ((None,), onto, undo), (([],), onto, undo),
                      (within, (), undo), (within, onto, ()), (within, {}, undo), (within, onto, {}), (None, onto, undo),
                      (within, None, undo), (within, onto, None), (within, [], undo)):
            self.assertIs(is_bar_choice(BOOK, wrong), False)
        for bar in (X, XX, (), ((),), (X, XX), (X, ()), ((1,),), ((True,),), ((-1,),), "0", 0, None, (X, X, X)):
            self.assertIs(is_bar_choice(BOOK, (({(X,): 1, bar: 0},), onto, undo)), False)
            self.assertIs(is_bar_choice(BOOK, (within, {**onto, bar: {}}, undo)), False)
            self.assertIs(is_bar_choice(BOOK, (within, onto, {**undo, bar: {}})), False)
            self.assertIs(is_bar_choice(BOOK, (within, {bar: {}, (X,): {0: 1}, (XX,): {}}, undo)), False)
            self.assertIs(is_bar_choice(BOOK, (within, onto, {**undo, (XX,): {bar: 0}})), False)
        for key in ((X,), (XX,), (X, X)):
            self.assertIs(is_bar_choice(BOOK, (within, {bar: onto[bar] for bar in onto if bar != key}, undo)), False)
            self.assertIs(is_bar_choice(BOOK, (within, onto, {bar: undo[bar] for bar in undo if bar != key})), False)
        for row in ({0: True}, {False: 1}, {1: 0, 0: 1}, {-1: 0, 0: 1}, {0: 1.0}, {0: "1"}, {"0": 1}, None, [], (0,)):
            self.assertIs(is_bar_choice(BOOK, (within, {**onto, (X,): row}, undo)), False)
        for row in ({(XX,): True}, {(XX,): 2.0}, {(XX,): "2"}, None, [], ((XX,), 2)):
            self.assertIs(is_bar_choice(BOOK, (within, onto, {**undo, (X, X): row})), False)
        # Keys that are equal to bars, but are none.
        self.assertIs(is_bar_choice(LetterBook(3, 2, 1, []), (({((0,),): 1}, {((True,),): 1}), {((0,),): {0: 1},
                                    ((1,),): {1: 1}}, {((0,),): {}, ((1,),): {}})), False)
        self.assertIs(is_bar_choice(LetterBook(3, 2, 1, []), (({((0,),): 1}, {((1,),): 1}), {((False,),): {0: 1},
                                    ((1,),): {1: 1}}, {((0,),): {}, ((1,),): {}})), False)

    def test_one_number_changed(self):
        rnd = random.Random(1)
        told = {True: 0, False: 0}
        for book in small_books():
            listed = bars(book)
            if not listed or len(listed) > 100:
                continue
            for base in (bar_choice(book), other_bar_choice(book, 1)):
                for _ in range(8):
                    within, onto, undo = copied(base)
                    part = rnd.randrange(3)
                    row = rnd.choice(list((within, list(onto.values()), list(undo.values()))[part]))
                    place = rnd.randrange(len(within)) if part == 1 else rnd.choice(listed)
                    row[place] = row.get(place, 0) + rnd.randrange(1, book.prime)
                    wanted = holds(book, (within, onto, undo))
                    self.assertIs(is_bar_choice(book, (tuple(within), onto, undo)), wanted)
                    told[wanted] += 1
        self.assertGreater(told[False], 100)

    def test_lots_of_small_triples(self):
        # All undo and onto of the bars of length 2, numbers 0 to 1 modulo 2.
        book = LetterBook(2, 1, 2, [])
        found = 0
        rows = [{}, {(X,): 1}, {(XX,): 1}, {(X, X): 1}, {(XX,): 1, (X, X): 1}]
        for low in rows:
            for high in rows:
                for first in rows:
                    for onto in ({}, {0: 1}):
                        thing = (({(X,): 1},), {(X,): {0: 1}, (XX,): onto, (X, X): {}}, {(X,): first, (XX,): low, (X, X): high})
                        wanted = holds(book, thing)
                        self.assertIs(is_bar_choice(book, thing), wanted)
                        found += wanted
        self.assertEqual(found, 1)

    def test_errors(self):
        for junk in NO_BOOKS:
            refused(self, BadRules, None, None, is_bar_choice, junk, None)
            refused(self, BadRules, None, None, bar_choice, junk)
        for book in (LetterBook(2, 3, 4, []), LetterBook(3, 3, 6, []), book_of(701)):
            refused(self, TooMany, "most", 700, is_bar_choice, book, None)
            refused(self, TooMany, "most", 700, bar_choice, book)
        self.assertIs(is_bar_choice(thing=GOOD, book=BOOK), True)
        self.assertTrue(holds(BOOK, bar_choice(book=BOOK)))


class BarChoiceTest(unittest.TestCase):
    def test_there_always_is_one(self):
        for book in small_books():
            choice = untouched(self, bar_choice, book)
            self.assertTrue(holds(book, choice))
            self.assertIs(untouched(self, is_bar_choice, book, choice), True)
            self.assertIsInstance(choice, tuple)
            self.assertIsInstance(choice[0], tuple)
            self.assertEqual(len(choice[0]), sum(ladder_counts(book).values()))
            for table in choice[1:]:
                self.assertEqual(list(table), sorted(bars(book)))
            rows = list(choice[0]) + list(choice[1].values()) + list(choice[2].values())
            self.assertTrue(all(is_ascending(row) for row in rows))
            again = bar_choice(LetterBook(book.prime, book.letters, book.most, book.rules))
            self.assertEqual(again, choice)

    def test_rules_told_otherwise(self):
        # The same for equal arguments, also if their rules are written otherwise.
        one = LetterBook(3, 2, 4, [{(0, 1): 1, (1, 0): 2}, {(0, 0): 1}])
        other = LetterBook(3, 2, 4, [{(0, 0): 2}, {}, {(1, 0): 1, (0, 1): -1, (0, 0): 1}, {(0, 0, 1): 1}])
        self.assertEqual(one, other)
        self.assertEqual(bar_choice(one), bar_choice(other))

    def test_other_choices(self):
        unlike = 0
        for book in small_books():
            for seed in range(2):
                choice = other_bar_choice(book, seed)
                self.assertTrue(holds(book, choice))
                self.assertIs(untouched(self, is_bar_choice, book, choice), True)
                unlike += choice != bar_choice(book)
        self.assertGreater(unlike, 20)

    def test_it_is_new(self):
        first = bar_choice(BOOK)
        first[1][X,][0] = 2
        first[2].clear()
        self.assertEqual(bar_choice(BOOK), GOOD)

    def test_just_700(self):
        book = book_of(700)
        self.assertIs(is_bar_choice(book, bar_choice(book)), True)


if __name__ == "__main__":
    unittest.main()
