import unittest

from leftproducts.alikes import alike_lead
from leftproducts.choices import made_choice
from leftproducts.errors import BadChoice, BadFrame, BadNumber, TooMany
from leftproducts.frames import Frame
from leftproducts.leads import Lead, plain_lead, put_behind, undone_lead
from leftproducts.leasts import leaves_same
from leftproducts.makers import faces_frame, turning_frame, words_frame
from leftproducts.many import many_of
from leftproducts.sames import choice_lead, same_lead
from leftproducts.transfers import left_into, left_many, left_onto
from tests.books import hidden_three
from tests.helpers import (JUNK, lead_holds, letters_frame, mixed_frame, other_choice, refused, small_frames, three_points,
                           untouched)

NO_FRAMES = (None, 0, True, "x", {}, [], Frame, many_of(letters_frame(), 2))


def two_letters():
    """letters_frame over the prime 2: what it leaves is small enough to be gone through."""
    return turning_frame(2, 3, [{}, {}, {(0, 1): 1}])


def with_two_more(frame, height):
    """The same frame with two places more, the second one the step of the first one."""
    size = len(frame.heights)
    return Frame(frame.prime, frame.heights + (height, height + 1), frame.product, {**frame.step, size: {size + 1: 1}})


class ChoiceLeadTest(unittest.TestCase):
    def test_it_is_both_behind_one_another(self):
        for frame in small_frames():
            choices = [made_choice(frame), other_choice(frame, 1), other_choice(frame, 2)]
            for one in choices:
                for other in choices[::-1]:
                    for most in (1, 2, 3):
                        lead = untouched(self, choice_lead, frame, one, other, most)
                        self.assertEqual(lead, put_behind(left_into(frame, one, most), left_onto(frame, other, most)))
                        self.assertEqual(lead.one, left_many(frame, one, most))
                        self.assertEqual(lead.other, left_many(frame, other, most))

    def test_it_can_be_undone(self):
        longer = 0
        for frame in small_frames():
            for most in (3, 4) if len(frame.heights) < 8 else (3,):
                one, other = other_choice(frame, 3), other_choice(frame, 4)
                lead = choice_lead(frame, one, other, most)
                back = undone_lead(lead)
                self.assertEqual(put_behind(lead, back), plain_lead(lead.one))
                self.assertEqual(put_behind(back, lead), plain_lead(lead.other))
                self.assertIs(leaves_same(lead), True)
                longer += any(len(word) > 1 for word in lead.rows)
                self.assertEqual(choice_lead(frame, one, one, most), plain_lead(lead.one))
        self.assertGreater(longer, 2)

    def test_errors(self):
        frame = letters_frame()
        choice = made_choice(frame)
        for junk in NO_FRAMES:
            refused(self, BadFrame, "part", None, choice_lead, junk, None, None, None)
        for junk in JUNK + (list(choice), choice[:2], made_choice(three_points())):
            refused(self, BadChoice, None, None, choice_lead, frame, junk, choice, 0)
            refused(self, BadChoice, None, None, choice_lead, frame, choice, junk, 9)
        for most in (0, 9, -1, True, None, "2", 2.0):
            refused(self, BadNumber, "part", "most", choice_lead, frame, choice, choice, most)
        refused(self, TooMany, "most", 10000, choice_lead, frame, choice, choice, 5)
        self.assertEqual(choice_lead(most=2, other=choice, one=choice, frame=frame).one, left_many(frame, choice, 2))

    def test_too_many_counts_places(self):
        frame = Frame(2, [0] * 6 + [1] * 5, {}, {k: {k + 6: 1} for k in range(5)})
        choice = made_choice(frame)
        self.assertEqual(choice_lead(frame, choice, choice, 3).rows, {(0,): {0: 1}})
        refused(self, TooMany, "most", 10000, choice_lead, frame, choice, choice, 4)
        refused(self, BadNumber, "part", "most", choice_lead, frame, choice, choice, 9)
        ten = Frame(2, list(range(10)), {}, {})
        choice_lead(ten, made_choice(ten), made_choice(ten), 4)
        refused(self, TooMany, "most", 10000, choice_lead, ten, made_choice(ten), made_choice(ten), 5)


class SameLeadTest(unittest.TestCase):
    def look(self, one, other, most, there):
        lead = untouched(self, same_lead, one, other, most)
        self.assertEqual(lead is not None, there)
        # There is one back exactly if there is one.
        self.assertEqual(same_lead(other, one, most) is not None, there)
        if there:
            self.assertIsInstance(lead, Lead)
            self.assertEqual((lead.one, lead.other), (many_of(one, most), many_of(other, most)))
            self.assertIs(leaves_same(lead), True)
            self.assertTrue(len(one.heights) > 5 or lead_holds(lead))
            self.assertEqual(lead, same_lead(Frame(one.prime, one.heights, one.product, one.step), other, most))

    def test_faces_by_hand(self):
        for prime in (2, 3, 31):
            one, two = faces_frame(prime, [(0,)]), faces_frame(prime, [(0,), (1,), (0, 1)])
            apart = faces_frame(prime, [(0,), (1,)])
            for most in (1, 2, 3, 5):
                self.look(one, two, most, True)
                self.look(one, apart, most, False)
                self.look(two, apart, most, False)
            lead = same_lead(one, two, 2)
            # The one of the point goes to the one of the line, or to that by which what is made differs.
            self.assertEqual(lead.rows[0,], {0: 1, 1: 1})

    def test_with_two_places_more(self):
        cases = [(hidden_three(), 3), (three_points(2), 3), (faces_frame(2, [(0,), (1,), (0, 1)]), 4),
                 (words_frame(5, [1], [{(0, 0): 2}], 3), 3), (turning_frame(2, 2, [{}, {}]), 3),
                 (Frame(3, [], {}, {}), 2), (two_letters(), 2)]
        for frame, most in cases:
            for height in (-2, 0, 1):
                self.look(frame, with_two_more(frame, height), most, True)
            self.look(with_two_more(frame, 1), with_two_more(frame, -3), most, True)

    def test_told_by_other_rows(self):
        for frame, most in ((hidden_three(), 3), (hidden_three(2), 4), (three_points(2), 3), (two_letters(), 3),
                            (faces_frame(3, [(0,), (1,), (2,), (0, 1), (0, 2), (1, 2)]), 3)):
            mixed = mixed_frame(frame, 5)
            self.look(frame, mixed, most, True)
            self.look(mixed, mixed_frame(frame, 6), most, True)

    def test_products_of_three_tell_frames_apart(self):
        for prime in (2, 3, 5):
            plain = Frame(prime, [1, 2], {}, {})
            for most, there in ((1, True), (2, True), (3, False), (4, False)):
                self.look(hidden_three(prime), plain, most, there)
            twice = Frame(prime, [1, 1, 2, 2], {(0, 0): {2: 1}, (0, 1): {3: 2 % prime}}, {1: {2: 1}})
            self.look(hidden_three(prime), twice, 3, prime != 2)

    def test_exactly_if_the_books_by_any_choices_are_alike(self):
        frames = [hidden_three(), mixed_frame(hidden_three(), 2), Frame(3, [1, 2], {}, {}), with_two_more(hidden_three(), 2),
                  Frame(3, [1, 2], {(0, 0): {1: 0}}, {}), Frame(3, [2, 1], {}, {}), Frame(3, [1, 1], {}, {}),
                  Frame(3, [1, 2, 4], {(0, 0): {1: 1}}, {})]
        told = {True: 0, False: 0}
        for k, one in enumerate(frames):
            for j, other in enumerate(frames):
                books = [left_many(frame, other_choice(frame, seed), 3) for frame, seed in ((one, k), (other, j + 9))]
                there = alike_lead(*books) is not None
                self.assertEqual(same_lead(one, other, 3) is not None, there)
                told[there] += 1
        self.assertTrue(told[True] > 8 and told[False] > 8)

    def test_errors(self):
        frame, other = letters_frame(), three_points(5)
        for junk in NO_FRAMES:
            refused(self, BadFrame, "part", None, same_lead, junk, junk, None)
            refused(self, BadFrame, "part", None, same_lead, frame, junk, None)
            refused(self, BadFrame, "part", None, same_lead, junk, frame, 2)
        refused(self, BadFrame, "part", "prime", same_lead, frame, other, None)
        for most in (0, 9, -1, True, None, "2", 2.0):
            refused(self, BadNumber, "part", "most", same_lead, frame, frame, most)
        lead = same_lead(most=2, other=two_letters(), one=two_letters())
        self.assertEqual(lead.one, many_of(two_letters(), 2))
        refused(self, TooMany, "most", 5000, same_lead, frame, frame, 2)

    def test_too_many(self):
        bare = Frame(2, [], {}, {})
        ten = Frame(2, list(range(0, 20))[:10], {}, {})
        eleven = Frame(2, [0] * 6 + [1] * 5, {}, {k: {k + 6: 1} for k in range(5)})
        for one, other in ((eleven, bare), (bare, eleven), (eleven, eleven)):
            refused(self, TooMany, "most", 10000, same_lead, one, other, 4)
        self.assertIsNone(same_lead(eleven, bare, 3))
        self.assertIsNone(same_lead(ten, bare, 4))
        # The books of what is left are counted, not the frames.
        self.assertIsNotNone(same_lead(eleven, Frame(2, [0], {}, {}), 3))
        wide = Frame(2, [0] * 4, {}, {})
        refused(self, TooMany, "most", 5000, same_lead, wide, wide, 2)
        refused(self, TooMany, "most", 10000, same_lead, wide, wide, 8)
        refused(self, TooMany, "most", 5000, same_lead, wide, wide, 6)
        self.assertIsNone(same_lead(wide, bare, 6))
        refused(self, BadNumber, "part", "most", same_lead, wide, wide, 9)


if __name__ == "__main__":
    unittest.main()
