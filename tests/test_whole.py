"""What the overview promises of the whole program (points 1 to 5), one chain through all of its parts."""

import copy
import os
import subprocess
import sys
import unittest
from pathlib import Path

from leftproducts.alikes import alike_lead
from leftproducts.barchoices import bar_choice
from leftproducts.bigrows import big_table, twice_left
from leftproducts.bigsizes import big_sizes
from leftproducts.choices import is_choice, left_heights, made_choice
from leftproducts.doubts import doubt_of_four, doubt_of_three
from leftproducts.errors import LeftError
from leftproducts.formal import first_place
from leftproducts.framedoubts import frame_doubt_of_three
from leftproducts.frames import Frame
from leftproducts.ladders import ladder_lengths, ladder_many
from leftproducts.leads import plain_lead, put_behind, undone_lead
from leftproducts.leasts import is_least, leaves_same
from leftproducts.leftovers import left_sizes
from leftproducts.live import LiveFrame
from leftproducts.makers import faces_frame, turning_frame, words_frame
from leftproducts.many import Many, ends, frame_of, many_of, rows_product
from leftproducts.moves import moved_many
from leftproducts.ones import is_one, one_left
from leftproducts.pairings import fit_choice, is_fit
from leftproducts.sames import choice_lead, same_lead
from leftproducts.shuffles import turns_round
from leftproducts.sides import beside, renamed, turned
from leftproducts.toldback import told_book
from leftproducts.transfers import left_into, left_many, left_onto
from leftproducts.wordsplits import line_sizes
from tests.books import hidden_three
from tests.helpers import is_sum_of, letters_frame, mixed_frame, other_choice, plus, small_frames, words_up_to
from tests.letters import other_bar_choice, small_books

ROOT = Path(__file__).resolve().parent.parent
# All that is open, of a few frames and books: told the same whatever the hashes of strings are.
SCRIPT = """
from leftproducts.choices import made_choice
from leftproducts.barchoices import bar_choice
from leftproducts.changes import told_change
from leftproducts.desk import Desk
from leftproducts.formal import done_away
from leftproducts.leasts import least_many
from leftproducts.letterbooks import LetterBook
from leftproducts.many import many_of
from leftproducts.pairings import fit_choice
from leftproducts.sames import same_lead
from leftproducts.sides import renamed
from leftproducts.transfers import left_many
from tests.books import hidden_three
from tests.helpers import letters_frame, small_frames
for frame in small_frames():
    print(made_choice(frame), least_many(many_of(frame, 2)).rows)
letters = letters_frame()
many = left_many(letters, made_choice(letters), 4)
print(fit_choice(letters, {7: 1}), done_away(many)[1].rows, told_change(many, {}, 1))
print(same_lead(hidden_three(), renamed(hidden_three(), [0, 1, 3, 2]), 3).rows)
print(bar_choice(LetterBook(3, 2, 4, [{(1, 0): 1, (0, 1): 2}])))
desk = Desk(letters)
for line in ("watch b 1:1", "watch a 2:1", "mix 1 2 1", "journal", "frame", "row a", "left"):
    print(desk.say(line))
print(desk.live.watched(), desk.live.told())
"""


class WholeTest(unittest.TestCase):
    def test_nothing_is_lost(self):
        # (b), (c): many products of what is left, by trees; maps to the frame and back; two choices.
        for frame in small_frames():
            choice, other = made_choice(frame), other_choice(frame, 7)
            self.assertTrue(is_choice(frame, choice) and is_choice(frame, other))
            many = left_many(frame, choice, 3)
            self.assertTrue(is_least(many))
            into, onto = left_into(frame, choice, 3), left_onto(frame, choice, 3)
            self.assertEqual(put_behind(into, onto), plain_lead(many))
            self.assertTrue(leaves_same(into) and leaves_same(onto))
            over = choice_lead(frame, choice, other, 3)
            self.assertEqual(put_behind(over, undone_lead(over)), plain_lead(many))
            sizes = left_sizes(frame)
            self.assertEqual({height: left_heights(frame, other).count(height) for height in sizes}, sizes)
            self.assertEqual(frame_of(many_of(frame, 3)), frame)
            self.assertTrue(ends(many_of(frame, 2)))

    def test_two_frames(self):
        # (c): led to one another exactly if their leftovers are alike.
        pairs = [(hidden_three(), mixed_frame(hidden_three(), 5)), (hidden_three(), Frame(3, [1, 2], {}, {})),
                 (faces_frame(3, [(0,)]), faces_frame(3, [(0,), (1,)])),
                 (faces_frame(3, [(0,)]), faces_frame(3, [(0,), (1,), (0, 1)])),
                 (turning_frame(3, 1, [{}]), words_frame(3, [1], [{}], 1))]
        answers = []
        for one, other in pairs:
            left = [left_many(frame, made_choice(frame), 3) for frame in (one, other)]
            self.assertEqual(same_lead(one, other, 3) is None, alike_lead(*left) is None)
            self.assertEqual(same_lead(other, one, 3) is None, same_lead(one, other, 3) is None)
            answers.append(same_lead(one, other, 3) is None)
        self.assertEqual(answers, [False, True, True, False, False])

    def test_doubtful_products_hold_the_products(self):
        # (d): of three and of four, in the frame and in what it leaves.
        frame = letters_frame()
        choice = other_choice(frame, 2)
        many = left_many(frame, choice, 4)
        threes, fours = 0, 0
        for word in words_up_to(len(many.heights), 4, 3):
            rows = [{place: 1} for place in word]
            if len(word) == 3 and doubt_of_three(many, *rows) is not None:
                row, doubts = doubt_of_three(many, *rows)
                less = dict(row)
                plus(less, rows_product(many, rows), -1)
                self.assertTrue(is_sum_of(less, doubts, many.prime))
                self.assertEqual(frame_doubt_of_three(frame, choice, *rows), (row, doubts))
                threes += bool(row)
            if len(word) == 4 and set(word) <= {1, 2} and doubt_of_four(many, *rows) is not None:
                fours += 1
        self.assertTrue(threes and fours)

    def test_first_places_are_told_for_ever(self):
        # (e): whatever the choice, and wherever leads that can be undone lead.
        frame = letters_frame()
        for choice in (made_choice(frame), other_choice(frame, 1), other_choice(frame, 4)):
            many = left_many(frame, choice, 4)
            self.assertEqual(first_place(many), 3)
            rows = {(k,): {k: 2} for k in range(len(many.heights))}
            self.assertEqual(first_place(moved_many(many, many.heights, rows).other), 3)

    def test_books_are_told_back(self):
        # (f): by the many products of what their ladders leave.
        for book in small_books()[:12]:
            for choice in (bar_choice(book), other_bar_choice(book, 9)):
                if len(choice[0]) <= 32:
                    self.assertEqual(told_book(ladder_many(book, choice), ladder_lengths(book)), book)

    def test_the_big_row(self):
        # (g): its step is nothing twice exactly if the rules hold; what it leaves is what the frame leaves.
        for frame in small_frames():
            many = left_many(frame, other_choice(frame, 3), 3)
            table = big_table(many.prime, many.heights, 3, many.products)
            self.assertEqual(twice_left(many.prime, many.heights, 3, table), {})
            self.assertEqual(big_sizes(many, 2), big_sizes(many_of(frame, 2), 2))
            self.assertEqual(line_sizes(many, 2), left_sizes(frame))
            for word in sorted(many.products)[:3]:
                high = many.heights[min(many.products[word])]
                row = {place: 1 for place, height in enumerate(many.heights) if height == high}
                changed = {**many.products, word: row}
                left = twice_left(many.prime, many.heights, 3, big_table(many.prime, many.heights, 3, changed))
                self.assertEqual(left == {}, self.can_be_made(many, changed))

    def can_be_made(self, many, products):
        try:
            Many(many.prime, many.heights, many.most, products)
        except LeftError:
            return False
        return True

    def test_frames_of_all_kinds_and_sides(self):
        # (a), and what stands by turns and ones.
        frame = beside(turning_frame(3, 2, [{}, {}]), faces_frame(3, [(0,), (1,), (0, 1)]))
        self.assertEqual(left_sizes(frame), {0: 1, 1: 2, 2: 1})
        self.assertEqual(turned(turned(frame)), frame)
        self.assertNotEqual(turned(frame), frame)
        choice = made_choice(frame)
        many = left_many(frame, choice, 3)
        self.assertTrue(is_one(many, one_left(frame, choice)))
        self.assertTrue(turns_round(left_many(letters_frame(), other_choice(letters_frame(), 1), 3)))
        self.assertTrue(is_fit(letters_frame(), {7: 1}, fit_choice(letters_frame(), {7: 1})))

    def test_a_live_frame_is_as_if_built_afresh(self):
        live = LiveFrame(letters_frame())
        live.do(("mix", 1, 2, 1))
        live.do(("rename", [0, 2, 1, 3, 4, 5, 6, 7]))
        live.undo()
        live.redo()
        order = [0, 2, 1, 3, 4, 5, 6, 7]
        fresh = LiveFrame(letters_frame())
        fresh.do(("mix", 1, 2, 1))
        self.assertEqual(live.frame, renamed(fresh.frame, order))
        self.assertEqual(live.told(), LiveFrame(live.frame).told())

    def test_equal_answers_whatever_the_hashes(self):
        told = []
        for seed in ("1", "2"):
            done = subprocess.run([sys.executable, "-B", "-c", SCRIPT], cwd=ROOT, capture_output=True, text=True,
                                  env={**os.environ, "PYTHONHASHSEED": seed}, check=True)
            told.append(done.stdout)
        self.assertEqual(told[0], told[1])
        self.assertGreater(len(told[0]), 1000)

    def test_objects_are_not_changed_by_what_is_asked_of_them(self):
        frame = mixed_frame(letters_frame(), 2)
        choice = other_choice(frame, 1)
        kept = copy.deepcopy((frame, choice))
        many = left_many(frame, choice, 3)
        before = copy.deepcopy(many)
        big_sizes(many, 2)
        turns_round(many)
        is_one(many, {0: 1})
        live = LiveFrame(frame)
        live.do(("scale", 1, 2))
        live.told()
        live.undo()
        self.assertEqual((frame, choice), kept)
        self.assertEqual(many, before)
        self.assertEqual(live.frame, frame)


if __name__ == "__main__":
    unittest.main()
