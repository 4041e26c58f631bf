import random
import unittest
from itertools import product

from leftproducts.choices import made_choice
from leftproducts.errors import BadLead, BadMany, NotUndone
from leftproducts.frames import Frame
from leftproducts.leads import Lead, plain_lead, put_behind, undone_lead
from leftproducts.many import Many, many_of
from leftproducts.transfers import left_into, left_many, left_onto
from tests.books import moved, some_books
from tests.helpers import (JUNK, clean, cut_rows, is_ascending, lead_holds, letters_frame, other_choice, refused,
                           small_frames, turn, untouched, words_up_to)


class LeadTest(unittest.TestCase):
    def setUp(self):
        self.one = Many(3, [1, 2], 3, {(0, 0): {1: 1}})

    def bad(self, part, *values):
        refused(self, BadLead, "part", part, Lead, *values)

    def test_first_errors(self):
        for junk in (None, 0, True, "x", {}, Many, letters_frame()):
            refused(self, BadMany, "part", None, Lead, junk, None, None)
            refused(self, BadMany, "part", None, Lead, junk, self.one, {})
            refused(self, BadMany, "part", None, Lead, self.one, junk, None)
        self.bad("fit", self.one, Many(5, [1, 2], 3, {}), None)
        self.bad("fit", self.one, Many(3, [1, 2], 2, {}), None)
        self.bad("fit", Many(3, [1, 2], 4, {}), self.one, None)

    def test_rows_kinds(self):
        for junk in (None, 0, True, "x", [], (), [((0,), {})]):
            self.bad("rows", self.one, self.one, junk)
        for word in ((), (0,) * 4, (2,), (-1,), (True,), 0, "0", None, ("0",)):
            self.bad("rows", self.one, self.one, {word: {}})
        for row in (None, 0, [], (), {2: 0}, {-1: 0}, {True: 1}, {1: True}, {1: "1"}, {"1": 1}):
            self.bad("rows", self.one, self.one, {(1,): row})
        self.bad("rows", self.one, Many(3, [1], 3, {}), {(1,): {1: 0}})
        self.bad("rows", Many(3, [1], 3, {}), self.one, {(1,): {1: 0}})

    def test_rows_turns(self):
        self.bad("rows", self.one, self.one, {(0,): {1: 1}})
        self.bad("rows", self.one, self.one, {(0, 1): {0: 1}})
        self.bad("rows", self.one, self.one, {(0, 1): {0: 1, 1: 1}})
        self.bad("rows", self.one, Many(3, [2, 1], 3, {}), {(0,): {0: 1}})
        self.assertEqual(Lead(self.one, self.one, {(0,): {1: 3}}).rows, {})
        bare = Many(3, [1, 2], 3, {})
        self.assertEqual(Lead(bare, bare, {(0, 1): {1: 1}}).rows, {(0, 1): {1: 1}})

    def test_the_rule_by_hand(self):
        # x to x: then x x is to be led to the product of x and x.
        self.bad("rule", self.one, self.one, {(0,): {0: 1}})
        self.assertEqual(Lead(self.one, self.one, {(0,): {0: 2}, (1,): {1: 1}}).rows[1,], {1: 1})
        self.bad("rule", self.one, self.one, {(0,): {0: 2}, (1,): {1: 2}})
        self.bad("rule", self.one, Many(3, [1, 2], 3, {}), {(0,): {0: 1}, (1,): {1: 1}})
        # A row of two places makes up for it if there is a step.
        stepped = Many(3, [1, 2, 1], 2, {(0, 0): {1: 1}, (2,): {1: 1}})
        bare = Many(3, [1, 2, 1], 2, {(2,): {1: 1}})
        firsts = {(k,): {k: 1} for k in range(3)}
        self.bad("rule", bare, stepped, firsts)
        Lead(bare, stepped, {**firsts, (0, 0): {2: -1}})
        self.bad("rule", bare, stepped, {**firsts, (0, 0): {2: 1}})
        self.bad("rule", stepped, bare, {**firsts, (0, 0): {2: -1}})
        Lead(stepped, bare, {**firsts, (0, 0): {2: 1}})

    def test_the_sign_of_what_stands_ahead(self):
        # The step of y is z, x has the odd turn -1.
        many = Many(5, [0, 0, 1], 2, {(1,): {2: 1}})
        self.bad("rule", many, Many(5, [0, 1], 2, {}), {(0, 2): {0: 1}})
        self.bad("rule", many, Many(5, [0, 1, -1], 2, {(2,): {0: 1}}), {(0, 2): {0: 1}, (0, 1): {2: 1}})
        Lead(many, Many(5, [0, 1, -1], 2, {(2,): {0: 1}}), {(0, 2): {0: 1}, (0, 1): {2: -1}})
        Lead(many, Many(5, [0, 1, -1], 2, {(2,): {0: 1}}), {(2, 0): {0: 1}, (1, 0): {2: 1}})

    def test_the_rule_word_by_word(self):
        rnd = random.Random(3)
        for many in some_books():
            lead = moved(many, rnd.randrange(100))
            self.assertTrue(lead_holds(lead))
            for _ in range(10):
                rows = {word: dict(row) for word, row in lead.rows.items()}
                word = rnd.choice(words_up_to(len(many.heights), many.most))
                places = [k for k, height in enumerate(many.heights) if height - 1 == turn(many.heights, word)]
                if places:
                    rows.setdefault(word, {})
                    place = rnd.choice(places)
                    rows[word][place] = rows[word].get(place, 0) + 1
                    self.look(lead, rows)

    def look(self, lead, rows):
        wanted = Lead.__new__(Lead)
        wanted.one, wanted.other = lead.one, lead.other
        wanted.rows = {word: clean(row, lead.one.prime) for word, row in rows.items()}
        if lead_holds(wanted):
            self.assertEqual(Lead(lead.one, lead.other, rows).one, lead.one)
        else:
            self.bad("rule", lead.one, lead.other, rows)

    def test_attributes(self):
        rows = {(1,): {1: 4}, (0,): {0: -1, 1: 3}, (0, 1): {}}
        lead = untouched(self, Lead, self.one, self.one, rows)
        self.assertEqual(list(lead.rows.items()), [((0,), {0: 2}), ((1,), {1: 1})])
        self.assertEqual((lead.one, lead.other), (self.one, self.one))
        rows[1,][1] = 0
        self.assertEqual(lead.rows[1,], {1: 1})
        wide = Many(3, [1, 1], 1, {})
        self.assertEqual(list(Lead(wide, wide, {(0,): {1: 1, 0: 1}}).rows[0,]), [0, 1])
        self.assertEqual(Lead(rows={}, other=self.one, one=self.one).rows, {})

    def test_equal(self):
        other = Many(3, [1, 2], 3, {(0, 0): {1: 2}})
        lead = Lead(self.one, self.one, {})
        self.assertEqual(lead, Lead(self.one, Many(3, [1, 2], 3, {(0, 0): {1: 1}}), {(0,): {0: 3}}))
        for unlike in (Lead(self.one, other, {}), Lead(other, self.one, {}), plain_lead(self.one), self.one) + JUNK:
            self.assertFalse(lead == unlike)
            self.assertTrue(lead != unlike)


class PutBehindTest(unittest.TestCase):
    def test_plain(self):
        for many in some_books():
            plain = plain_lead(many)
            self.assertEqual(plain, Lead(many, many, {(k,): {k: 1} for k in range(len(many.heights))}))
            lead = moved(many, 5)
            self.assertEqual(put_behind(plain, lead), lead)
            self.assertEqual(put_behind(lead, plain_lead(lead.other)), lead)

    def test_by_hand(self):
        many = Many(5, [1, 1], 3, {})
        first = Lead(many, many, {(0,): {0: 2}, (1,): {1: 1}, (0, 1): {1: 1}, (0, 0, 0): {0: 1}})
        second = Lead(many, many, {(0,): {0: 1, 1: 1}, (1,): {1: 3}, (0, 1): {0: 1}})
        both = put_behind(first, second).rows
        # (0, 1): second of the row there, and second's row of 2 times 0, 1.
        self.assertEqual(both, {(0,): {0: 2, 1: 2}, (0, 1): {0: 2, 1: 3}, (1,): {1: 3},
                                (0, 0, 0): {0: 1, 1: 1}, (0, 0, 1): {0: 2}})

    def test_word_by_word(self):
        for many in some_books():
            first = moved(many, 1)
            second = moved(first.other, 2)
            both = untouched(self, put_behind, first, second)
            self.assertEqual((both.one, both.other), (first.one, second.other))
            self.assertTrue(is_ascending(both.rows))
            for word in words_up_to(len(many.heights), many.most):
                wanted = cut_rows(first.rows, second.rows, word, many.prime)
                self.assertEqual(both.rows.get(word, {}), wanted)

    def test_brackets(self):
        for many in some_books():
            first = moved(many, 3)
            second = moved(first.other, 4)
            third = moved(second.other, 5)
            self.assertEqual(put_behind(put_behind(first, second), third), put_behind(first, put_behind(second, third)))
        for frame in small_frames():
            choice, other = made_choice(frame), other_choice(frame, 2)
            into, onto = left_into(frame, choice, 3), left_onto(frame, other, 3)
            third = left_into(frame, other, 3)
            self.assertEqual(put_behind(put_behind(into, onto), third), put_behind(into, put_behind(onto, third)))

    def test_errors(self):
        many = some_books()[2]
        plain = plain_lead(many)
        for junk in (None, 0, True, "x", {}, many, Lead):
            refused(self, BadLead, "part", None, put_behind, junk, None)
            refused(self, BadLead, "part", None, put_behind, junk, plain)
            refused(self, BadLead, "part", None, put_behind, plain, junk)
            refused(self, BadLead, "part", None, undone_lead, junk)
        for junk in (None, 0, True, "x", {}, plain, Many):
            refused(self, BadMany, "part", None, plain_lead, junk)
        other = plain_lead(Many(3, [1, 1, 2], 4, {}))
        refused(self, BadLead, "part", "fit", put_behind, plain, other)
        refused(self, BadLead, "part", "fit", put_behind, other, plain)
        self.assertEqual(put_behind(second=plain, first=plain), plain_lead(many=many))


class UndoneTest(unittest.TestCase):
    def test_both_sides(self):
        for many in some_books():
            for seed in range(3):
                lead = moved(many, seed)
                back = untouched(self, undone_lead, lead)
                self.assertEqual((back.one, back.other), (lead.other, lead.one))
                self.assertEqual(put_behind(lead, back), plain_lead(lead.one))
                self.assertEqual(put_behind(back, lead), plain_lead(lead.other))
                self.assertEqual(undone_lead(back), lead)

    def test_between_books_of_two_choices(self):
        for frame in small_frames():
            one, other = made_choice(frame), other_choice(frame, 3)
            lead = put_behind(left_into(frame, one, 3), left_onto(frame, other, 3))
            back = undone_lead(lead=lead)
            self.assertEqual(put_behind(lead, back), plain_lead(lead.one))
            self.assertEqual(put_behind(back, lead), plain_lead(lead.other))

    def test_by_hand(self):
        many = Many(5, [1, 1], 3, {})
        lead = Lead(many, many, {(0,): {0: 2}, (1,): {1: 1}, (0, 0): {1: 1}, (0, 0, 0): {0: 1}})
        # 2 g(0) = 0; g(0 0) + f(0 0) of g(0), g(0) = 0, f(0 0) is 1, g(0) is 3: 9 is 4, less that is 1.
        back = undone_lead(lead)
        self.assertEqual(back.rows[0,], {0: 3})
        self.assertEqual(back.rows[0, 0], {1: 1})
        # 27 times f(0 0 0), which is 2 times 0; less that, times 3: -6 is 4.
        self.assertEqual(back.rows[0, 0, 0], {0: 4})

    def test_not_undone(self):
        two, three = Many(3, [1, 1], 2, {}), Many(3, [1, 1, 1], 2, {})
        for one, other, rows in ((two, two, {}), (two, two, {(0,): {0: 1}}), (two, two, {(0, 0): {0: 1}, (1,): {1: 1}}),
                                 (two, two, {(0,): {0: 1, 1: 1}, (1,): {0: 2, 1: 2}}),
                                 (two, three, {(0,): {0: 1}, (1,): {1: 1}}),
                                 (three, two, {(0,): {0: 1}, (1,): {1: 1}}),
                                 (three, two, {(0,): {0: 1}, (1,): {1: 1}, (2,): {1: 1}})):
            refused(self, NotUndone, None, None, undone_lead, Lead(one, other, rows))
        self.assertEqual(undone_lead(plain_lead(two)), plain_lead(two))
        empty = Many(3, [], 2, {})
        self.assertEqual(undone_lead(Lead(empty, empty, {})), plain_lead(empty))
        refused(self, NotUndone, None, None, undone_lead, Lead(empty, two, {}))

    def test_the_firsts_tell(self):
        # left_into is undone exactly if all is left.
        for frame in small_frames():
            into = left_into(frame, made_choice(frame), 3)
            if frame.step:
                refused(self, NotUndone, None, None, undone_lead, into)
            else:
                self.assertEqual(put_behind(undone_lead(into), into), plain_lead(into.other))

    def test_only_one_goes_back(self):
        # All leads from a small book to itself are tried.
        many = Many(2, [1, 1], 2, {})
        lead = Lead(many, many, {(0,): {0: 1, 1: 1}, (1,): {1: 1}, (0, 1): {0: 1}})
        words = words_up_to(2, 2)
        back = []
        for rows in product([{}, {0: 1}, {1: 1}, {0: 1, 1: 1}], repeat=len(words)):
            other = Lead(many, many, dict(zip(words, rows)))
            if put_behind(lead, other) == plain_lead(many):
                back.append(other)
        self.assertEqual(back, [undone_lead(lead)])


if __name__ == "__main__":
    unittest.main()
