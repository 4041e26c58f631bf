import unittest

from leftproducts.barchoices import bar_choice
from leftproducts.choices import made_choice
from leftproducts.errors import BadMany, BadNumber, TooMany
from leftproducts.ladders import ladder_many
from leftproducts.leftovers import left_sizes
from leftproducts.many import Many, many_of
from leftproducts.transfers import left_many
from leftproducts.wordsplits import line_sizes
from tests.bigwords import all_cuts, line_height, line_step, sizes_by_ranks, word_books
from tests.books import NO_MANYS, two_level_book
from tests.helpers import clean, other_choice, plus, rank, refused, small_frames, untouched, words_up_to
from tests.letters import other_bar_choice
from tests.test_ladders import ladder_books


def lines_up_to(places, length):
    return [line for word in words_up_to(places, length) for line in all_cuts(word)]


def few_lines(many, length):
    """Whether a test may go through all lines."""
    places = len(many.heights)
    return sum(places ** n * 2 ** (n - 1) for n in range(1, length + 1)) <= 300


def lines_of(many):
    lengths = [length for length in range(1, many.most + 1) if few_lines(many, length)]
    return [(length, lines_up_to(len(many.heights), length)) for length in lengths]


class LineSizesTest(unittest.TestCase):
    def test_by_hand(self):
        many = Many(3, [1, 2], 3, {(0, 0): {1: 1}})
        for length in (1, 2, 3):
            self.assertEqual(line_sizes(many, length), {1: 1, 2: 1})
        self.assertEqual(line_sizes(many=Many(5, [0, 1], 4, {(0,): {1: 2}}), length=3), {})
        self.assertEqual(line_sizes(Many(5, [-3, 4, 4], 4, {}), 2), {-3: 1, 4: 2})
        self.assertEqual(line_sizes(Many(2, [], 4, {}), 4), {})

    def test_by_ranks(self):
        looked = 0
        for many in word_books() + [two_level_book(seed) for seed in range(8)]:
            for length, lines in lines_of(many):
                heights = {line: line_height(many.heights, line) for line in lines}
                steps = {line: line_step(many, line) for line in lines}
                sizes = untouched(self, line_sizes, many, length)
                self.assertEqual(sizes, sizes_by_ranks(many.prime, heights, steps))
                self.assertEqual(list(sizes), sorted(sizes))
                looked += length > 1
        self.assertGreater(looked, 40)

    def test_the_step_twice_is_nothing(self):
        for many in word_books():
            for _, lines in lines_of(many):
                for line in lines:
                    twice = {}
                    for other, number in line_step(many, line).items():
                        plus(twice, line_step(many, other), number)
                        self.assertEqual(line_height(many.heights, other), line_height(many.heights, line) + 1)
                    self.assertEqual(clean(twice, many.prime), {})

    def test_what_products_of_one_leave(self):
        for many in word_books() + [two_level_book(seed) for seed in range(8)]:
            steps = {(k,): {(place,): n for place, n in many.products.get((k,), {}).items()}
                     for k in range(len(many.heights))}
            wanted = sizes_by_ranks(many.prime, {(k,): many.heights[k] for (k,) in steps}, steps)
            for length in range(1, many.most + 1):
                if sum(len(many.heights) ** n * 2 ** (n - 1) for n in range(1, length + 1)) <= 700:
                    self.assertEqual(line_sizes(many, length), wanted)

    def test_frames_and_what_they_leave(self):
        for frame in small_frames():
            for many in (many_of(frame, 2), left_many(frame, made_choice(frame), 2),
                         left_many(frame, other_choice(frame, 3), 2)):
                self.assertEqual(line_sizes(many, 2), left_sizes(frame))

    def test_ladders_leave_all(self):
        for book in ladder_books():
            for choice in (bar_choice(book), other_bar_choice(book, 1)):
                many = ladder_many(book, choice)
                length = 2 if len(many.heights) <= 12 and book.most > 1 else 1
                sizes = line_sizes(many, length)
                self.assertEqual(sizes, {floor: many.heights.count(floor) for floor in sorted(set(many.heights))})

    def test_the_signs_matter(self):
        # Lines of up to three places of a book in which the ranks of the steps tell all signs from one another.
        many = Many(5, [0, 0, 1], 3, {(0, 0): {0: 1}, (0, 1): {1: 1}, (0, 2): {2: 1}, (1, 0): {1: 1}, (2, 0): {2: 4}})
        self.assertEqual(line_sizes(many, 3), {0: 2, 1: 1})
        lines = lines_up_to(3, 3)
        self.assertEqual(rank([line_step(many, line) for line in lines], 5) * 2 + 3, len(lines))

    def test_errors(self):
        for junk in NO_MANYS:
            refused(self, BadMany, "part", None, line_sizes, junk, None)
        many = Many(3, [1, 2], 3, {})
        for length in (0, 4, -1, True, None, "2", 2.0, (2,)):
            refused(self, BadNumber, "part", "length", line_sizes, many, length)
        wide = Many(3, [1] * 32, 8, {})
        refused(self, BadNumber, "part", "length", line_sizes, wide, 9)
        refused(self, TooMany, "most", 2000, line_sizes, wide, 2)
        refused(self, TooMany, "most", 2000, line_sizes, wide, 8)
        # Of 31 places there are 31 and 1922 lines, of 7 places 7, 98 and 1372, of 8 places 8, 128 and 2048.
        self.assertEqual(line_sizes(Many(3, [1] * 31, 8, {}), 2), {1: 31})
        self.assertEqual(line_sizes(Many(3, [1] * 7, 3, {}), 3), {1: 7})
        refused(self, TooMany, "most", 2000, line_sizes, Many(3, [1] * 8, 3, {}), 3)
        self.assertEqual(line_sizes(wide, 1), {1: 32})


if __name__ == "__main__":
    unittest.main()
