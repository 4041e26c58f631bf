import random
import unittest

from leftproducts.choices import made_choice
from leftproducts.errors import BadLead, BadMany, NotUndone, TooMany
from leftproducts.frames import Frame
from leftproducts.leads import Lead, plain_lead, put_behind, undone_lead
from leftproducts.leasts import is_least, least_many, leaves_same
from leftproducts.leftovers import left_sizes
from leftproducts.many import Many, many_of
from leftproducts.moves import moved_many
from leftproducts.transfers import left_into, left_many, left_onto
from tests.books import random_table, some_books
from tests.helpers import letters_frame, other_choice, refused, rule_left, small_frames, untouched, words_up_to

NO_MANYS = (None, 0, True, "x", {}, [], Many, letters_frame())


def stepped_books():
    """Books with products of one, of two, of three and more places."""
    found = []
    for many in some_books() + [many_of(letters_frame(), 3)]:
        for seed in range(2):
            table = random_table(random.Random(seed), many, 0.5)
            found.append(moved_many(many, many.heights, table).other)
    return found


def sizes(many):
    """How much the step of the book leaves, by heights: that of a frame without products."""
    frame = Frame(many.prime, many.heights, {}, {word[0]: row for word, row in many.products.items() if len(word) == 1})
    return left_sizes(frame)


class IsLeastTest(unittest.TestCase):
    def test_by_hand(self):
        self.assertIs(is_least(Many(3, [1, 2], 2, {(0, 0): {1: 1}})), True)
        self.assertIs(is_least(Many(3, [1, 2], 2, {(0,): {1: 1}})), False)
        self.assertIs(is_least(Many(3, [1, 2], 2, {(0,): {1: 3}})), True)
        self.assertIs(is_least(Many(3, [1, 2, 2], 2, {(0,): {1: 1}, (0, 0): {2: 1}})), False)
        self.assertIs(is_least(many=Many(3, [], 1, {})), True)
        for junk in NO_MANYS:
            refused(self, BadMany, "part", None, is_least, junk)


class LeastManyTest(unittest.TestCase):
    def test_there_always_is_one(self):
        longer = 0
        for many in stepped_books() + some_books():
            lead = untouched(self, least_many, many)
            self.assertEqual(lead.other, many)
            self.assertIs(is_least(lead.one), True)
            self.assertIs(leaves_same(lead), True)
            least = lead.one
            heights = least.heights
            self.assertEqual({height: heights.count(height) for height in sorted(set(heights))}, sizes(many))
            self.assertFalse([word for word in words_up_to(len(heights), least.most)
                              if rule_left(least.prime, heights, least.products, word)])
            again = least_many(Many(many.prime, many.heights, many.most, many.products))
            self.assertEqual(again, lead)
            longer += any(len(word) > 2 for word in least.products)
        self.assertGreater(longer, 5)

    def test_of_frames(self):
        for frame in small_frames():
            lead = least_many(many_of(frame, 3))
            onto = left_onto(frame, other_choice(frame, 2), 3)
            there = put_behind(lead, onto)
            self.assertEqual(put_behind(there, undone_lead(there)), plain_lead(lead.one))

    def test_too_many(self):
        refused(self, TooMany, "most", 10000, least_many, Many(2, [0] * 11, 4, {}))
        refused(self, TooMany, "most", 10000, least_many, Many(2, [0] * 5 + [1] * 6, 4, {}))
        self.assertEqual(len(least_many(Many(2, [0] * 10, 4, {})).one.heights), 10)
        # Only what is left counts.
        steps = {(k,): {k + 16: 1} for k in range(13)}
        many = Many(2, [0] * 16 + [1] * 16, 5, steps)
        self.assertEqual(len(least_many(many).one.heights), 6)
        many = Many(2, [0] * 16 + [1] * 16, 6, steps)
        refused(self, TooMany, "most", 10000, least_many, many)
        for junk in NO_MANYS:
            refused(self, BadMany, "part", None, least_many, junk)
        self.assertEqual(least_many(many=Many(2, [], 8, {})).rows, {})


class LeavesSameTest(unittest.TestCase):
    def test_by_hand(self):
        one, two = Many(3, [0], 2, {}), Many(3, [0, 0], 2, {})
        self.assertIs(leaves_same(plain_lead(one)), True)
        self.assertIs(leaves_same(Lead(one, one, {})), False)
        self.assertIs(leaves_same(Lead(one, two, {(0,): {0: 1}})), False)
        self.assertIs(leaves_same(Lead(two, one, {(0,): {0: 1}, (1,): {0: 1}})), False)
        self.assertIs(leaves_same(Lead(two, two, {(0,): {0: 1}, (1,): {0: 1}})), False)
        self.assertIs(leaves_same(Lead(two, two, {(0,): {0: 1}, (1,): {0: 1, 1: 1}})), True)
        # As many rows are left in all, but of other heights.
        self.assertIs(leaves_same(Lead(Many(3, [0, 1], 2, {}), Many(3, [0, 0], 2, {}), {(0,): {0: 1}})), False)
        # What is left goes to what is made.
        made = Many(3, [0, 1, 1], 2, {(0,): {1: 1}})
        self.assertIs(leaves_same(Lead(Many(3, [1], 2, {}), made, {(0,): {1: 1}})), False)
        self.assertIs(leaves_same(Lead(Many(3, [1], 2, {}), made, {(0,): {1: 1, 2: 2}})), True)
        self.assertIs(leaves_same(Lead(made, Many(3, [1], 2, {}), {(2,): {0: 2}})), True)
        self.assertIs(leaves_same(Lead(made, made, {(2,): {2: 1}})), True)
        self.assertIs(leaves_same(Lead(Many(3, [], 1, {}), Many(3, [0, 1], 1, {(0,): {1: 1}}), {})), True)
        # As many are left, but two of them go to the same but for what is made.
        wide = Many(3, [1, 1], 2, {})
        more = Many(3, [0, 1, 1, 1], 2, {(0,): {1: 1}})
        self.assertIs(leaves_same(Lead(wide, more, {(0,): {2: 1}, (1,): {2: 1, 1: 1}})), False)
        self.assertIs(leaves_same(Lead(wide, more, {(0,): {2: 1}, (1,): {3: 1, 1: 1}})), True)
        self.assertIs(leaves_same(lead=plain_lead(wide)), True)
        for junk in (None, 0, True, "x", {}, wide, Lead):
            refused(self, BadLead, "part", None, leaves_same, junk)

    def test_into_and_onto(self):
        for frame in small_frames():
            for choice in (made_choice(frame), other_choice(frame, 8)):
                for most in (1, 2, 3):
                    self.assertIs(untouched(self, leaves_same, left_into(frame, choice, most)), True)
                    self.assertIs(leaves_same(left_onto(frame, choice, most)), True)

    def test_put_behind(self):
        for frame in small_frames():
            into, onto = left_into(frame, made_choice(frame), 2), left_onto(frame, other_choice(frame, 8), 2)
            self.assertIs(leaves_same(put_behind(into, onto)), True)
            self.assertIs(leaves_same(put_behind(onto, left_into(frame, other_choice(frame, 8), 2))), True)
            nothing = Lead(into.one, into.one, {})
            self.assertIs(leaves_same(nothing), not into.one.heights)
            self.assertIs(leaves_same(put_behind(nothing, into)), not into.one.heights)

    def test_leads_that_can_be_undone(self):
        for many in stepped_books():
            lead = moved_many(many, many.heights, random_table(random.Random(4), many))
            self.assertIs(leaves_same(lead), True)

    def test_between_least_books(self):
        rnd = random.Random(2)
        told = {True: 0, False: 0}
        for most in (1, 2, 3):
            many = Many(2, [0, 1, 1], most, {})
            for _ in range(60):
                rows = {(0,): {0: rnd.randrange(2)}, (1,): {1: rnd.randrange(2), 2: rnd.randrange(2)},
                        (2,): {1: rnd.randrange(2), 2: rnd.randrange(2)}}
                lead = Lead(many, many, rows)
                try:
                    undone_lead(lead)
                    undone = True
                except NotUndone:
                    undone = False
                self.assertIs(leaves_same(lead), undone)
                told[undone] += 1
        self.assertTrue(told[True] and told[False])

    def test_left_many_is_least(self):
        for frame in small_frames():
            self.assertIs(is_least(left_many(frame, made_choice(frame), 3)), True)


if __name__ == "__main__":
    unittest.main()
