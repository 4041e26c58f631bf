import random
import unittest

from leftproducts.errors import BadLead, BadMany, NotUndone
from leftproducts.frames import Frame
from leftproducts.leads import Lead, plain_lead, put_behind, undone_lead
from leftproducts.many import Many, many_of
from leftproducts.moves import moved_many
from tests.books import random_table, some_books
from tests.helpers import lead_holds, letters_frame, refused, rule_left, untouched, words_up_to


class MovedManyTest(unittest.TestCase):
    def test_by_hand(self):
        # x x is y; x is told by 2 times itself, y by y: then x x is 4 times smaller, 3 less 1 is 4.
        many = Many(5, [1, 2], 2, {(0, 0): {1: 1}})
        lead = moved_many(many, [1, 2], {(0,): {0: 2}, (1,): {1: 1}})
        self.assertEqual(lead.other, Many(5, [1, 2], 2, {(0, 0): {1: 4}}))
        # The places in another sequence.
        lead = moved_many(many, (2, 1), {(0,): {1: 1}, (1,): {0: 1}})
        self.assertEqual(lead.other, Many(5, [2, 1], 2, {(1, 1): {0: 1}}))
        # A step z to y makes the product go away, and come back.
        stepped = Many(3, [1, 2, 1], 2, {(0, 0): {1: 1}, (2,): {1: 1}})
        bare = Many(3, [1, 2, 1], 2, {(2,): {1: 1}})
        rows = {(0,): {0: 1}, (1,): {1: 1}, (2,): {2: 1}, (0, 0): {2: 1}}
        self.assertEqual(moved_many(stepped, [1, 2, 1], rows).other, bare)
        self.assertEqual(moved_many(bare, [1, 2, 1], {**rows, (0, 0): {2: -1}}).other, stepped)
        # A row of two places makes products of three: x x is y, and x y as w too, told by rows.
        many = Many(5, [1, 2, 1, 2], 3, {(0, 0): {1: 1}, (2, 0): {3: 1}})
        plain = {(k,): {k: 1} for k in range(4)}
        lead = moved_many(many, many.heights, {**plain, (0, 1): {3: 1}})
        self.assertEqual(lead.other.products, {(0, 0): {1: 1}, (2, 0): {3: 1}, (0, 0, 0): {3: 1}})

    def test_it_is_a_lead_with_these_rows(self):
        for many in some_books():
            for seed in range(4):
                rows = random_table(random.Random(seed), many)
                lead = untouched(self, moved_many, many, many.heights, rows)
                self.assertEqual(lead.one, many)
                self.assertEqual(lead, Lead(many, lead.other, rows))
                self.assertTrue(lead_holds(lead))
                other = lead.other
                for word in words_up_to(len(other.heights), other.most):
                    self.assertFalse(rule_left(other.prime, other.heights, other.products, word))

    def test_products_of_three_and_more_come(self):
        lengths = set()
        for many in some_books():
            for seed in range(4):
                other = moved_many(many, many.heights, random_table(random.Random(seed), many)).other
                lengths |= {len(word) for word in other.products}
        self.assertEqual(lengths, {1, 2, 3, 4})

    def test_there_is_just_one(self):
        many = Many(2, [1, 2], 2, {(0, 0): {1: 1}})
        rows = {(0,): {0: 1}, (1,): {1: 1}, (0, 1): {1: 1}}
        found = []
        for number in (0, 1):
            other = Many(2, [1, 2], 2, {(0, 0): {1: number}})
            try:
                found.append(Lead(many, other, rows))
            except BadLead:
                pass
        self.assertEqual(found, [moved_many(many, [1, 2], rows)])

    def test_moved_on(self):
        for many in some_books():
            first = moved_many(many, many.heights, random_table(random.Random(7), many))
            second = moved_many(first.other, many.heights, random_table(random.Random(8), first.other))
            both = put_behind(first, second)
            self.assertEqual(moved_many(many, many.heights, both.rows), both)
            back = undone_lead(first)
            self.assertEqual(moved_many(first.other, many.heights, back.rows), back)
            self.assertEqual(back.other, many)
            plain = plain_lead(many)
            self.assertEqual(moved_many(many, many.heights, plain.rows), plain)

    def test_errors(self):
        many = Many(3, [1, 2], 2, {(0, 0): {1: 1}})
        firsts = {(0,): {0: 1}, (1,): {1: 1}}
        for junk in (None, 0, True, "x", {}, letters_frame(), Many):
            refused(self, BadMany, "part", None, moved_many, junk, None, None)
        for heights in (None, 0, {}, "12", [65, 0], [-65], [True, 2], ["1"], [1] * 33):
            refused(self, BadMany, "part", "heights", moved_many, many, heights, None)
        for junk in (None, 0, True, "x", [], (), [((0,), {})]):
            refused(self, BadLead, "part", "rows", moved_many, many, [1, 2], junk)
        for word in ((), (0, 0, 0), (2,), (-1,), (True,), 0, "0", None):
            refused(self, BadLead, "part", "rows", moved_many, many, [1, 2], {word: {}})
        for row in (None, 0, [], {2: 0}, {-1: 0}, {True: 1}, {1: True}, {1: "1"}, {0: 1}, {1: 1, 0: 1}):
            refused(self, BadLead, "part", "rows", moved_many, many, [1, 2], {**firsts, (1,): row})
        refused(self, BadLead, "part", "rows", moved_many, many, [2, 1], firsts)
        refused(self, BadLead, "part", "rows", moved_many, many, [1], {(0,): {1: 3}})
        for rows in ({}, {(0,): {0: 1}}, {(0,): {0: 1}, (0, 1): {1: 1}}, {(0,): {0: 3}, (1,): {1: 1}}):
            refused(self, NotUndone, None, None, moved_many, many, [1, 2], rows)
        refused(self, NotUndone, None, None, moved_many, many, [1, 2, 3], firsts)
        refused(self, NotUndone, None, None, moved_many, many, [1], {(0,): {0: 1}})
        refused(self, NotUndone, None, None, moved_many, many, [3, 3], {})
        two = Many(3, [1, 1], 1, {})
        refused(self, NotUndone, None, None, moved_many, two, [1, 1], {(0,): {0: 1, 1: 2}, (1,): {0: 2, 1: 1}})
        self.assertEqual(moved_many(rows=firsts, heights=[1, 2], many=many).other, many)

    def test_numbers_of_rest_nought(self):
        many = many_of(Frame(3, [1, 2], {(0, 0): {1: 1}}, {}), 3)
        lead = moved_many(many, [1, 2], {(0,): {0: 4, 1: 3}, (1,): {1: -2}, (0, 0, 0): {0: 3}})
        self.assertEqual(lead, plain_lead(many))


if __name__ == "__main__":
    unittest.main()
