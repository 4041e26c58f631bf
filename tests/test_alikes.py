import random
import unittest
from itertools import product as pairs_of

from leftproducts.alikes import alike_firsts, alike_lead
from leftproducts.errors import BadLead, BadMany, NotLeast, TooMany
from leftproducts.leads import Lead, undone_lead
from leftproducts.many import Many
from leftproducts.moves import moved_many
from tests.books import NO_MANYS, moved, plain_least_books
from tests.helpers import all_rows, lead_holds, rank, refused, turn, untouched, words_up_to


def tables(one, other):
    """All rows for the words of 1 to most - 1 places of one, of turns that fit."""
    words = words_up_to(len(one.heights), max(1, one.most - 1))
    choices = [all_rows(one.prime, [k for k, height in enumerate(other.heights) if height - 1 == turn(one.heights, word)])
               for word in words]
    for rows in pairs_of(*choices):
        yield dict(zip(words, rows))


def all_firsts(one, other):
    """The rows of words of one place of all leads that can be undone, tried one by one."""
    found = set()
    size = len(one.heights)
    for table in tables(one, other):
        firsts = [table[k,] for k in range(size)]
        if size != len(other.heights) or rank(firsts, one.prime) < size:
            continue
        try:
            Lead(one, other, table)
        except BadLead:
            continue
        found.add(tuple(tuple(row.items()) for row in firsts))
    return found


def few_books():
    """Groups of books of the same places, prime and most: among them some that are alike."""
    found = []
    for prime, most in ((2, 2), (2, 3), (2, 4), (3, 3), (5, 2)):
        empty = Many(prime, [1, 2], most, {})
        group = [empty] + [Many(prime, [1, 2], most, {(0,) * k: {1: 1}}) for k in range(2, most + 1)]
        group.append(Many(prime, [1, 2], most, {(0,) * most: {1: prime - 1}}))
        found.append(group + [moved(group[1], 3).other, moved(group[-1], 4).other])
    found.append([Many(2, [0, 1], 2, {}), Many(2, [0, 1], 2, {(0, 0): {0: 1}}),
                  Many(2, [0, 1], 2, {(0, 0): {0: 1}, (0, 1): {1: 1}}),
                  Many(2, [1, 0], 2, {(1, 1): {1: 1}, (1, 0): {0: 1}})])
    found.append([Many(2, [1, 1, 2], 2, {(0, 1): {2: 1}}), Many(2, [1, 1, 2], 2, {(1, 0): {2: 1}}),
                  Many(2, [1, 1, 2], 2, {(0, 0): {2: 1}}), Many(2, [1, 2, 1], 2, {(0, 2): {1: 1}}),
                  Many(2, [1, 1, 2], 2, {(0, 1): {2: 1}, (1, 0): {2: 1}})])
    found.append([Many(2, [2, 1], 3, {(1, 1, 1): {0: 1}}), Many(2, [1, 2], 3, {(0, 0, 0): {1: 1}}),
                  Many(2, [1, 3], 3, {}), Many(2, [1], 3, {}), Many(2, [], 3, {}), Many(2, [1, 1], 3, {})])
    found.append([Many(3, [4, 4], 1, {}), Many(3, [4, 5], 1, {}), Many(3, [5, 4], 1, {}), Many(3, [], 1, {})])
    return found


class AlikeTest(unittest.TestCase):
    def test_against_all_leads_tried_one_by_one(self):
        told = {True: 0, False: 0}
        for group in few_books():
            for one in group:
                for other in group:
                    wanted = all_firsts(one, other)
                    self.assertEqual(untouched(self, alike_firsts, one, other), len(wanted))
                    lead = untouched(self, alike_lead, one, other)
                    self.assertEqual(lead is not None, bool(wanted))
                    if lead is not None:
                        self.look(lead, one, other)
                        firsts = [lead.rows.get((k,), {}) for k in range(len(one.heights))]
                        self.assertIn(tuple(tuple(row.items()) for row in firsts), wanted)
                    told[bool(wanted)] += one != other
        self.assertTrue(min(told.values()) > 20)

    def look(self, lead, one, other):
        self.assertIsInstance(lead, Lead)
        self.assertEqual((lead.one, lead.other), (one, other))
        undone_lead(lead)
        again = alike_lead(Many(one.prime, one.heights, one.most, one.products), other)
        self.assertEqual(again, lead)

    def test_moved_ones_are_alike(self):
        looked = 0
        for many in plain_least_books():
            # Their places in another sequence, too.
            order = list(range(len(many.heights)))
            random.Random(3).shuffle(order)
            heights = [many.heights[k] for k in order]
            turned = moved_many(many, heights, {(k,): {order.index(k): 1} for k in order}).other
            for other in (moved(many, 5).other, moved(turned, 6).other):
                try:
                    lead = alike_lead(many, other)
                except TooMany:
                    continue
                self.look(lead, many, other)
                self.assertTrue(len(many.heights) > 2 or lead_holds(lead))
                self.look(alike_lead(other, many), other, many)
                count = alike_firsts(many, many)
                self.assertEqual({alike_firsts(many, other), alike_firsts(other, many), alike_firsts(other, other)},
                                 {count})
                self.assertEqual(moved_many(many, other.heights, lead.rows), lead)
                looked += 1
        self.assertGreater(looked, 8)

    def test_none_or_as_many_as_of_the_first_with_itself(self):
        for group in few_books():
            for one in group:
                for other in group:
                    self.assertIn(alike_firsts(one, other), (0, alike_firsts(one, one)))

    def test_one_place_of_height_1_and_one_of_height_2(self):
        # They are told by the shortest word of the first place with a product.
        for prime, most in ((2, 4), (2, 5), (3, 4), (5, 4), (7, 3)):
            rnd = random.Random(prime)
            books = [Many(prime, [1, 2], most, {(0,) * k: {1: rnd.randrange(prime)} for k in range(2, most + 1)
                                                if rnd.random() < 0.4}) for _ in range(7)]
            first = [min([len(word) for word in many.products], default=0) for many in books]
            for k, one in enumerate(books):
                for j, other in enumerate(books):
                    self.assertEqual(alike_lead(one, other) is not None, first[k] == first[j])
                    self.assertEqual(alike_firsts(one, other) > 0, first[k] == first[j])

    def test_the_longest_products_but_one_need_a_longer_row(self):
        # x x is y: the row y of the word y x makes a product of x x x.
        bare = Many(2, [1, 2], 3, {(0, 0): {1: 1}})
        other = Many(2, [1, 2], 3, {(0, 0): {1: 1}, (0, 0, 0): {1: 1}})
        self.assertEqual(moved_many(bare, [1, 2], {(0,): {0: 1}, (1,): {1: 1}, (1, 0): {1: 1}}).other, other)
        lead = alike_lead(bare, other)
        self.assertEqual((lead.one, lead.other), (bare, other))
        self.assertTrue(any(len(word) == 2 for word in lead.rows))

    def test_of_rows_of_two_places_not_any_will_do(self):
        # They are to be chosen such that products of four come right, too: here z for the word x x,
        # while nothing else tells of it than that z x x is w and x x x x is to be w.
        for prime in (2, 3, 7):
            for number in range(prime):
                one = Many(prime, [2, 3, 6], 4, {(1, 0, 0): {2: 1}})
                other = Many(prime, [2, 3, 6], 4, {(1, 0, 0): {2: 1}, (0, 0, 0, 0): {2: number}})
                self.look(alike_lead(one, other), one, other)
                self.assertEqual(alike_firsts(other, one), alike_firsts(one, one))
                self.assertEqual(alike_firsts(one, one), (prime - 1) ** 2)
        many = Many(2, [1, 2], 4, {(0, 0): {1: 1}})
        for seed in range(20):
            other = moved(many, seed).other
            self.look(alike_lead(many, other), many, other)
            self.look(alike_lead(other, many), other, many)

    def test_leads_are_as_many_as_changes_of_places(self):
        self.assertEqual(alike_firsts(Many(7, [1, 1], 3, {}), Many(7, [1, 1], 3, {})), 2016)
        self.assertEqual(alike_firsts(Many(2, [1, 1, 1], 3, {}), Many(2, [1, 1, 1], 3, {})), 168)
        # Three ones beside one another: they may be put in each sequence.
        many = Many(2, [0, 0, 0], 3, {(k, k): {k: 1} for k in range(3)})
        self.assertEqual(alike_firsts(many, many), 6)
        # x x is y: x is led to a times itself, then y to a * a times itself.
        many = Many(5, [1, 2], 2, {(0, 0): {1: 1}})
        self.assertEqual(alike_firsts(many, many), 4)
        self.assertEqual(alike_firsts(many, Many(5, [1, 2], 2, {})), 0)
        lead = alike_lead(many, Many(5, (1, 2), 2, {(0, 0): {1: 3}}))
        number, = lead.rows[0,].values()
        self.assertEqual(lead.rows[1,], {1: number * number * 3 % 5})
        self.assertEqual(alike_firsts(Many(3, [], 8, {}), Many(3, [], 8, {})), 1)
        self.assertEqual(alike_lead(Many(3, [], 8, {}), Many(3, [], 8, {})).rows, {})


class ErrorsTest(unittest.TestCase):
    def test_kinds(self):
        one = Many(3, [1, 2], 3, {(0, 0): {1: 1}})
        stepped = Many(3, [1, 2], 3, {(0,): {1: 1}})
        many = Many(31, [0] * 32, 3, {})
        for function in (alike_lead, alike_firsts):
            for junk in NO_MANYS:
                refused(self, BadMany, "part", None, function, junk, junk)
                refused(self, BadMany, "part", None, function, stepped, junk)
                refused(self, BadMany, "part", None, function, junk, one)
            refused(self, NotLeast, None, None, function, stepped, one)
            refused(self, NotLeast, None, None, function, one, stepped)
            refused(self, NotLeast, None, None, function, one, Many(5, [1, 2], 2, {(0,): {1: 1}}))
            refused(self, NotLeast, None, None, function, many, stepped)
            refused(self, BadLead, "part", "fit", function, one, Many(5, [1, 2], 3, {}))
            refused(self, BadLead, "part", "fit", function, one, Many(3, [1, 2], 2, {}))
            refused(self, BadLead, "part", "fit", function, many, Many(31, [0] * 32, 4, {}))
            refused(self, TooMany, "most", 5000, function, many, many)
        self.assertEqual(alike_lead(other=one, one=one).one, one)
        self.assertEqual(alike_firsts(other=one, one=one), 2)

    def few(self, prime, heights, others, most, fits):
        one, other = Many(prime, heights, most, {}), Many(prime, others, most, {})
        for function in (alike_lead, alike_firsts):
            if fits:
                function(one, other)
            else:
                refused(self, TooMany, "most", 5000, function, one, other)

    def test_too_many(self):
        self.few(2, [1, 1, 1, 2, 3, 4], [1, 1, 1, 2, 3, 4], 3, True)
        self.few(2, [1, 1, 1, 2, 3, 4, 5], [1, 1, 1, 2, 3, 4, 5], 3, False)
        self.few(3, [1, 1, 2, 3, 4], [1, 1, 2, 3, 4], 3, True)
        self.few(3, [1, 1, 2, 2], [1, 1, 2, 2], 3, False)
        self.few(17, [1, 2, 3], [1, 2, 3], 1, True)
        self.few(19, [1, 2, 3], [1, 2, 3], 2, False)
        # Words of two places count from most 4 on, those of three from 5 on.
        self.few(5, [1, 2], [1, 2], 3, True)
        self.few(5, [1, 2], [1, 2], 4, True)
        self.few(5, [1, 2], [1, 2], 5, False)
        self.few(2, [1, 2], [1, 2], 5, True)
        self.few(2, [1, 2], [1, 2], 6, False)
        self.few(2, [1], [1], 8, True)
        self.few(3, [1], [1], 8, True)
        self.few(5, [1], [1], 8, False)
        # So they do if the places are not as many.
        self.few(2, [0] * 12, [0, 1], 2, True)
        self.few(2, [0] * 13, [0, 1], 2, False)
        self.few(2, [1] * 2, [1, 2, 5], 4, True)
        self.few(2, [1] * 3, [1, 2, 5], 4, True)
        self.few(2, [1] * 4, [1, 2, 5], 4, False)
        self.few(31, [0] * 32, [1] * 32, 2, True)
        self.few(31, [1] * 32, [1] * 32, 8, False)
        # Long words may have the turns of other places.
        self.few(2, [4, 5, 6], [7, 7, 7, 7, 10], 3, True)
        self.few(2, [4, 5, 6], [7, 7, 7, 7, 10], 4, True)
        self.few(2, [4, 5, 6], [7, 7, 7, 7, 8, 10], 4, True)
        self.few(2, [4, 5, 6], [7, 7, 8, 8, 8, 8, 8, 9, 9, 10], 4, False)

    def test_of_many_long_words_few_fit(self):
        # No words of two to six places have the turn of a place, but those of seven.
        heights = [2, 8, 14, 20, 26]
        many = Many(2, heights, 8, {})
        self.assertEqual(alike_firsts(many, many), 1)


if __name__ == "__main__":
    unittest.main()
