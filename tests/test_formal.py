import random
import unittest
from itertools import product as pairs_of

from leftproducts.changes import change_sizes, told_change
from leftproducts.choices import made_choice
from leftproducts.errors import BadMany, BadNumber, NotLeast, TooMany
from leftproducts.formal import done_away, first_place, is_formal, scaled_lead
from leftproducts.leads import Lead, put_behind, undone_lead
from leftproducts.many import Many, cut_many
from leftproducts.moves import moved_many
from leftproducts.transfers import left_many
from tests.books import NO_MANYS, hidden_three, least_books, moved, two_level_book
from tests.helpers import all_rows, clean, lead_holds, letters_frame, other_choice, refused, untouched
from tests.test_changes import random_change, spots, together
from tests.test_framedoubts import hidden_four


def plain(many):
    return {(k,): {k: 1} for k in range(len(many.heights))}


def of_length(many, length):
    return {word: row for word, row in many.products.items() if len(word) == length}


def formal_books():
    """Least books with a most that first_place takes, and few words."""
    books = [many for many in least_books() + [two_level_book(seed) for seed in range(12)]
             if many.most <= many.prime + 2 and len(many.heights) ** many.most <= 1300]
    for prime, most in ((2, 4), (3, 5), (5, 5)):
        for frame in (hidden_three(prime), hidden_four(prime)):
            books.append(left_many(frame, made_choice(frame), most))
    # Products of two places alone, moved: what is longer can be done away with.
    for seed in range(3):
        books.append(moved(Many(3, [1, 1, 2], 5, {(0, 1): {2: 1}}), seed).other)
        books.append(moved(Many(2, [0, 1], 4, {(0, 0): {0: 1}, (0, 1): {1: 1}, (1, 0): {1: 1}}), seed).other)
        books.append(moved(Many(3, [1, 2], 5, {(0, 0, 0): {1: 1}}), seed).other)
        books.append(moved(Many(3, [1, 2], 5, {(0, 0, 0, 0): {1: 1}}), seed).other)
    books.append(moved_plainly(Many(3, [1, 2, 1, 2], 5, {(0, 0): {1: 1}, (2, 2, 2, 2): {3: 1}}), 3))
    return books


def named(many):
    return tuple((word, tuple(row.items())) for word, row in many.products.items())


def moved_plainly(many, seed):
    rnd = random.Random(seed)
    change = random_change(rnd, many, 0, range(2, many.most))
    return moved_many(many, many.heights, {**plain(many), **change}).other


class FirstPlaceTest(unittest.TestCase):
    def test_by_hand(self):
        many = Many(3, [1, 2], 5, {(0, 0, 0): {1: 1}})
        self.assertEqual(first_place(many), 3)
        self.assertIs(is_formal(many), False)
        many = Many(3, [0, 0], 5, {(0, 0): {0: 1}, (0, 1): {1: 1}, (1, 0): {1: 1}})
        self.assertIsNone(first_place(many))
        self.assertIs(is_formal(many), True)
        self.assertEqual(first_place(Many(3, [1, 2], 5, {(0, 0, 0, 0): {1: 1}})), 4)
        # Products of most places are not looked at.
        self.assertIsNone(first_place(Many(3, [1, 2], 4, {(0, 0, 0, 0): {1: 1}})))
        self.assertIsNone(first_place(Many(3, [1, 2], 3, {(0, 0, 0): {1: 1}})))
        for most in (1, 2):
            self.assertIsNone(first_place(Many(2, [1, 2], most, {})))
            self.assertEqual(done_away(Many(2, [1, 2], most, {}))[0], None)
        # x x is y: so x x x can be done away with, by a row for y x.
        many = Many(3, [1, 2], 4, {(0, 0): {1: 1}, (0, 0, 0): {1: 1}})
        self.assertIs(is_formal(many), True)
        first, lead = done_away(many)
        self.assertEqual((first, of_length(lead.other, 3)), (None, {}))
        self.assertEqual(first_place(Many(2, [], 4, {})), None)

    def test_products_of_three_done_away_with_may_bring_those_of_four(self):
        found = {(first_place(many), bool(of_length(many, 3))) for many in formal_books()}
        self.assertLessEqual({(None, True), (None, False), (3, True), (4, False), (4, True)}, found)

    def test_it_is_told_for_ever(self):
        told = set()
        for many in formal_books():
            first = untouched(self, first_place, many)
            for other in (moved(many, 3).other, moved(many, 4).other, moved_plainly(many, 5)):
                self.assertEqual(first_place(other), first)
                self.assertIs(is_formal(other), first is None)
            told.add(first)
        self.assertEqual(told, {None, 3, 4})

    def test_of_the_leftovers_of_a_frame(self):
        told = set()
        for frame in (hidden_three(2), hidden_three(3), hidden_four(2), hidden_four(3), letters_frame()):
            most = 4 if frame.prime == 2 or len(frame.heights) > 6 else 5
            firsts = {first_place(left_many(frame, choice, most))
                      for choice in (made_choice(frame), other_choice(frame, 1), other_choice(frame, 2))}
            self.assertEqual(len(firsts), 1)
            told |= firsts
        self.assertEqual(told, {None, 3, 4})


class DoneAwayTest(unittest.TestCase):
    def test_what_it_promises(self):
        longer = 0
        for many in formal_books():
            first, lead = untouched(self, done_away, many)
            self.assertEqual(first, first_place(many))
            self.assertIsInstance(lead, Lead)
            self.assertEqual(lead.one, many)
            self.assertTrue(lead_holds(lead))
            self.assertEqual({word: row for word, row in lead.rows.items() if len(word) == 1}, plain(many))
            self.assertEqual(of_length(lead.other, 2), of_length(many, 2))
            lengths = {len(word) for word in lead.other.products if len(word) > 2}
            self.assertFalse(lengths & set(range(3, first or many.most)))
            if first is not None:
                part = of_length(lead.other, first)
                self.assertTrue(part)
                self.assertIsNone(told_change(lead.other, part, 1))
            self.assertEqual(done_away(Many(many.prime, many.heights, many.most, many.products)), (first, lead))
            longer += any(len(word) > 1 for word in lead.rows)
        self.assertGreater(longer, 8)

    def test_products_of_the_first_place_differ_by_a_made_change(self):
        looked = 0
        for many in formal_books():
            first, lead = done_away(many)
            if first is None:
                continue
            for seed in range(3):
                _, other = done_away(moved_plainly(many, seed))
                there = of_length(other.other, first)
                difference = together(many.prime, (1, of_length(lead.other, first)), (-1, there))
                self.assertIsNotNone(told_change(lead.other, difference, 1))
                looked += bool(difference)
        self.assertGreater(looked, 5)


class FormalTest(unittest.TestCase):
    def tables(self, many):
        """All rows for words of 2 to most - 1 places, of turn 0."""
        places = [spot for length in range(2, many.most) for spot in spots(many, length, 0)]
        for row in all_rows(many.prime, places):
            table = plain(many)
            for (word, place), number in row.items():
                table.setdefault(word, {})[place] = number
            yield table

    def test_exactly_if_some_lead_leads_to_products_of_two_and_of_most(self):
        told = {True: 0, False: 0}
        books = [Many(2, [1, 2], 4, {(0, 0, 0): {1: 1}}), Many(2, [1, 2], 4, {(0, 0): {1: 1}, (0, 0, 0): {1: 1}}),
                 Many(2, [1, 2], 4, {(0, 0, 0, 0): {1: 1}}), Many(3, [1, 2], 4, {(0, 0): {1: 2}, (0, 0, 0): {1: 1}}),
                 Many(3, [0, 1], 4, {(0, 0): {0: 1}}), Many(2, [3, 4, 8], 4, {(0, 0, 0): {2: 1}}),
                 Many(2, [0, 1], 4, {(0, 0): {0: 1}, (0, 1): {1: 1}, (1, 0): {1: 1}})]
        books += [moved(many, seed).other for many in books for seed in (3, 4)]
        for many in books:
            # A lead that can be undone is one of places, with which products of two and of most alone
            # stay such, behind one with plain rows: those are enough.
            found = False
            for table in self.tables(many):
                other = moved_many(many, many.heights, table).other
                if all(len(word) in (2, many.most) for word in other.products):
                    found = True
                    break
            self.assertIs(is_formal(many), found)
            told[found] += 1
        self.assertTrue(min(told.values()) > 3, told)

    def test_nothing_left_is_formal(self):
        looked = 0
        for many in formal_books():
            if all(change_sizes(many, k, 1)[2] == 0 for k in range(3, many.most)):
                self.assertIs(is_formal(many), True)
                looked += any(of_length(many, 3))
        self.assertGreater(looked, 2)

    def test_counts(self):
        books = [Many(2, [1, 2], 4, {(0, 0): {1: 1}}), Many(3, [1, 2], 4, {}), Many(2, [0, 1], 4, {(0, 0): {0: 1}}),
                 Many(2, [1, 1, 2], 4, {(0, 1): {2: 1}}), Many(3, [0, 1], 4, {(0, 0): {0: 1}, (0, 1): {1: 1}}),
                 Many(3, [2, 3, 4], 4, {(0, 0): {2: 1}}), Many(2, [1, 1, 2], 4, {})]
        several = 0
        for many in books:
            places = spots(many, 3, 1)
            fitting = []
            for row in all_rows(many.prime, places):
                products = {word: dict(told) for word, told in many.products.items()}
                for (word, place), number in row.items():
                    products.setdefault(word, {})[place] = number
                try:
                    fitting.append(Many(many.prime, many.heights, 4, products))
                except BadMany:
                    pass
            _, kept, left = change_sizes(many, 3, 1)
            self.assertEqual(len(fitting), many.prime ** kept)
            self.assertEqual(len(self.kinds(many, fitting)), many.prime ** left)
            several += left > 0 and kept > left
        self.assertGreater(several, 0)

    def kinds(self, many, fitting):
        """Lots of books led to one another by plain rows, but for products of four: by one row of one word
        of two places after the other, as all others come of those."""
        lots = []
        done = set()
        for book in fitting:
            coming = [cut_many(book, 3)]
            if named(coming[0]) in done:
                continue
            lots.append(book)
            done.add(named(coming[0]))
            while coming:
                book = coming.pop()
                for word, place in spots(many, 2, 0):
                    other = moved_many(book, book.heights, {**plain(many), word: {place: 1}}).other
                    if named(other) not in done:
                        done.add(named(other))
                        coming.append(other)
        return lots

    def test_errors(self):
        for function in (first_place, is_formal, done_away):
            for junk in NO_MANYS:
                refused(self, BadMany, "part", None, function, junk)
            refused(self, NotLeast, None, None, function, Many(2, [1, 2], 8, {(0,): {1: 1}}))
            for prime, most in ((2, 5), (3, 6), (5, 8)):
                refused(self, BadNumber, "part", "most", function, Many(prime, [1] * 32, most, {}))
                function(Many(prime, [1], most - 1, {}))
            function(Many(7, [1], 8, {}))
            refused(self, TooMany, "most", 3000, function, Many(2, [1] * 8, 4, {}))
            refused(self, TooMany, "most", 3000, function, Many(2, [1] * 15, 3, {}))
            function(Many(2, [1] * 7, 4, {}))
            function(Many(2, [1] * 14, 3, {}))
            function(many=Many(7, [1] * 2, 8, {}))


class ScaledTest(unittest.TestCase):
    def test_by_hand(self):
        pairs = {(0, 1): {2: 2}, (1, 0): {2: 5}}
        many = Many(7, [1, 2, 3], 4, {(0,): {1: 1}, **pairs, (0, 0, 0, 0): {1: 1}})
        lead = scaled_lead(many, 3)
        # 3 to the power -1 is 5, to -2 it is 4, to -3 it is 6.
        self.assertEqual(lead.rows, {(0,): {0: 5}, (1,): {1: 4}, (2,): {2: 6}})
        self.assertEqual(lead.other.products, {(0,): {1: 5}, **pairs, (0, 0, 0, 0): {1: 2}})
        many = Many(5, [-1, -2, 0], 1, {(1,): {0: 1}})
        self.assertEqual(scaled_lead(many, -3).rows, {(0,): {0: 2}, (1,): {1: 4}, (2,): {2: 1}})

    def test_all_units(self):
        for many in least_books() + [Many(5, [0, 1], 2, {(0,): {1: 1}}), Many(2, [0, 1], 2, {(0,): {1: 1}})]:
            for unit in (1, many.prime - 1, many.prime + 1, -1, 2 * many.prime - 1, 8 if many.prime == 7 else 1):
                lead = untouched(self, scaled_lead, many, unit)
                self.assertEqual(lead.one, many)
                prime = many.prime
                for word, row in many.products.items():
                    times = pow(unit % prime, len(word) - 2, prime)
                    self.assertEqual(lead.other.products[word], clean({k: times * n for k, n in row.items()}, prime))
                self.assertEqual(set(lead.other.products), set(many.products))
                self.assertEqual(lead.rows, {(k,): {k: pow(unit % prime, -height, prime)}
                                             for k, height in enumerate(many.heights)})
                self.assertTrue(len(many.heights) > 4 or lead_holds(lead))
                undone_lead(lead)

    def test_of_many_units(self):
        many = Many(31, [-64, 0, 64], 2, {})
        for unit, other in pairs_of((1, 2, 3, 30, -5, 33), repeat=2):
            both = put_behind(scaled_lead(many, unit), scaled_lead(many, other))
            self.assertEqual(both, scaled_lead(many, unit * other))

    def test_first_places_stay(self):
        for many in formal_books():
            for unit in range(1, many.prime):
                self.assertEqual(first_place(scaled_lead(many, unit).other), first_place(many))

    def test_errors(self):
        many = Many(3, [1, 2], 3, {(0,): {1: 1}})
        for junk in NO_MANYS:
            refused(self, BadMany, "part", None, scaled_lead, junk, None)
        for unit in (0, 3, -3, 6, None, True, "1", 1.0, (), {}):
            refused(self, BadNumber, "part", "unit", scaled_lead, many, unit)
        self.assertEqual(scaled_lead(unit=4, many=many).other, many)


if __name__ == "__main__":
    unittest.main()
