import random
import unittest

from leftproducts.changes import change_sizes, changed, changes_bracket, changes_put, is_change, told_change
from leftproducts.errors import BadChange, BadMany, BadNumber, NotLeast, TooMany
from leftproducts.many import Many
from tests.books import NO_MANYS, least_books, moved
from tests.helpers import JUNK, all_rows, clean, is_ascending, plus, rank, refused, sign, turn, untouched, words_up_to


def put(many, one, other, other_turn):
    """changes_put, word by word, as point 60 tells it."""
    found = {}
    for word in words_up_to(len(many.heights), many.most, 0):
        total = {}
        for i in range(len(word) + 1):
            for j in range(i, len(word) + 1):
                ahead, v, behind = word[:i], word[i:j], word[j:]
                for place, number in other.get(v, {}).items():
                    row = one.get(ahead + (place,) + behind, {})
                    plus(total, row, number * sign(other_turn * turn(many.heights, ahead)))
        found[word] = clean(total, many.prime)
    return {word: row for word, row in sorted(found.items()) if row}


def together(prime, *parts):
    """The sum of pairs of a number and a change."""
    total = {}
    for number, change in parts:
        for word, row in change.items():
            plus(total.setdefault(word, {}), row, number)
    rows = {word: clean(row, prime) for word, row in sorted(total.items())}
    return {word: row for word, row in rows.items() if row}


def bracket(many, one, one_turn, other, other_turn):
    return together(many.prime, (1, put(many, one, other, other_turn)),
                    (-sign(one_turn * other_turn), put(many, other, one, one_turn)))


def pairs(many):
    return {word: row for word, row in many.products.items() if len(word) == 2}


def spots(many, length, more):
    """The pairs of a word of this length and a place that fit the turn."""
    words = [()] if length == 0 else words_up_to(len(many.heights), length, length)
    return [(word, k) for word in words for k, height in enumerate(many.heights)
            if height - 1 == turn(many.heights, word) + more]


def random_change(rnd, many, more, lengths=None, share=0.5):
    change = {}
    for length in lengths if lengths is not None else range(many.most + 1):
        for word, place in spots(many, length, more):
            if rnd.random() < share:
                change.setdefault(word, {})[place] = rnd.randrange(-many.prime, 2 * many.prime)
    return change


def small_books():
    """Least books with few words."""
    return [many for many in least_books() if len(many.heights) ** many.most <= 1300]


def flat(change):
    return {(word, place): number for word, row in change.items() for place, number in row.items()}


class IsChangeTest(unittest.TestCase):
    def setUp(self):
        self.many = Many(3, [1, 2, 0], 3, {(0, 0): {1: 1}})

    def test_by_hand(self):
        # The word () has the turn 0: with turn 0 its row has places of height 1.
        for thing, more in (({}, 0), ({(): {0: 1}}, 0), ({(): {1: 1}}, 1), ({(): {2: 1}}, -1), ({(0, 1): {1: 2}}, 0),
                            ({(1, 1): {1: 2}}, -1), ({(1, 1, 1): {1: 5, 0: 3}}, -2), ({(0,): {0: 1, 1: 0, 2: -3}}, 0),
                            ({(2, 2, 2): {}}, 7), ({(2, 2): {0: 0}}, 5), ({(2, 2, 2): {1: 1}}, 4)):
            self.assertIs(untouched(self, is_change, self.many, more, thing), True)
        for thing, more in (({(): {0: 1}}, 1), ({(0, 1): {1: 2}}, 1), ({(0,): {0: 1, 1: 1}}, 0), ({(1, 1): {1: 2}}, 1),
                            ({(): {2: 1}}, 1), ({(0, 0, 0, 0): {0: 1}}, 0), ({(0, 0, 0, 0): {}}, 0)):
            self.assertIs(is_change(self.many, more, thing), False)

    def test_any_value(self):
        for junk in JUNK:
            self.assertIs(is_change(self.many, 0, junk), junk == {} and isinstance(junk, dict))
        for word in (0, "0", None, (True,), (3,), (-1,), ("0",), (1.0,), [0], ((0,),)):
            if not isinstance(word, list):
                self.assertIs(is_change(self.many, 0, {word: {}}), False)
        for row in (None, 0, [], (), {True: 1}, {0: True}, {0: 1.0}, {0: "1"}, {"0": 1}, {3: 0}, {-1: 0}, {None: 1}):
            self.assertIs(is_change(self.many, 0, {(0,): row}), False)
        self.assertIs(is_change(thing={(0,): {0: 1}}, turn=0, many=self.many), True)

    def test_errors(self):
        stepped = Many(3, [1, 2], 3, {(0,): {1: 1}})
        for junk in NO_MANYS:
            refused(self, BadMany, "part", None, is_change, junk, None, None)
        refused(self, NotLeast, None, None, is_change, stepped, None, None)
        for more in (None, True, "0", 1.0, (), {}):
            refused(self, BadNumber, "part", "turn", is_change, self.many, more, None)


class PutTest(unittest.TestCase):
    def test_by_hand(self):
        # Turns 0, 1, -1; the row of () is put in at each place.
        many = Many(5, [1, 2, 0], 2, {})
        one = {(0,): {0: 1}, (2, 0): {2: 1}, (0, 2): {2: 3}}
        self.assertEqual(changes_put(many, one, 0, {(): {0: 1}}, 0), {(): {0: 1}, (2,): {2: 4}})
        # With an odd turn going past place 2 turns the sign.
        odd = {(2, 2): {2: 1}}
        self.assertEqual(changes_put(many, odd, 1, {(): {2: 1}}, -1), {})
        self.assertEqual(changes_put(many, odd, 1, {(0,): {2: 1}}, -1), {(0, 2): {2: 1}, (2, 0): {2: 4}})
        self.assertEqual(changes_put(many, {(0,): {0: 2}}, 0, {(0, 0): {0: 3}, (): {0: 1}}, 0),
                         {(): {0: 2}, (0, 0): {0: 1}})
        # Longer words than most are left out.
        self.assertEqual(changes_put(many, {(0, 0): {0: 1}}, 0, {(0, 0): {0: 1}}, 0), {})
        self.assertEqual(changes_put(many, {(): {0: 1}}, 0, {(0,): {0: 1}}, 0), {})

    def test_word_by_word(self):
        rnd = random.Random(1)
        filled = 0
        for many in small_books():
            for one_turn, other_turn in ((0, 0), (1, -1), (-1, 0), (0, 1), (-2, -1), (-1, -1)):
                one, other = random_change(rnd, many, one_turn), random_change(rnd, many, other_turn)
                found = untouched(self, changes_put, many, one, one_turn, other, other_turn)
                self.assertEqual(found, put(many, one, other, other_turn))
                self.assertTrue(is_ascending(found) and is_change(many, one_turn + other_turn, found))
                filled += len(found) > 3
        self.assertGreater(filled, 30)

    def test_bracket_word_by_word(self):
        rnd = random.Random(2)
        for many in small_books():
            for one_turn, other_turn in ((0, 0), (1, -1), (-1, -1), (1, 1), (-3, 1), (-2, 1)):
                one, other = random_change(rnd, many, one_turn), random_change(rnd, many, other_turn)
                found = untouched(self, changes_bracket, many, one, one_turn, other, other_turn)
                self.assertEqual(found, bracket(many, one, one_turn, other, other_turn))
                self.assertTrue(is_ascending(found))

    def test_changed_word_by_word(self):
        rnd = random.Random(3)
        filled = 0
        for many in small_books():
            for more in (0, 1, -1, -2):
                change = random_change(rnd, many, more)
                found = untouched(self, changed, many, change, more)
                self.assertEqual(found, bracket(many, pairs(many), 1, change, more))
                self.assertTrue(is_ascending(found))
                filled += bool(found)
        self.assertGreater(filled, 30)

    def test_numbers_beyond_the_prime(self):
        many = Many(3, [1, 2], 3, {(0, 0): {1: 1}})
        one, other = {(0,): {0: 7, 1: 3}, (0, 0): {}}, {(0, 0): {0: -2, 1: -3}, (1,): {1: 0}}
        self.assertEqual(changes_put(many, one, 0, other, 0), {(0, 0): {0: 1}})
        self.assertEqual(changed(many, {(0,): {0: 4}, (1,): {1: 3}}, 0), changed(many, {(0,): {0: 1}}, 0))
        self.assertEqual(changed(many, {(0,): {0: 4}}, 0), {(0, 0): {1: 2}})


class HeartTest(unittest.TestCase):
    def test_changed_of_changed_is_nothing(self):
        rnd = random.Random(4)
        filled = 0
        for many in least_books():
            for more in (0, 1, -1, -2):
                change = random_change(rnd, many, more, range(min(many.most, 3) + 1), 0.3)
                first = changed(many, change, more)
                self.assertEqual(changed(many, first, more + 1), {})
                filled += bool(first)
        self.assertGreater(filled, 30)

    def test_all_products_put_into_themselves(self):
        for many in least_books():
            self.assertEqual(changes_put(many, many.products, 1, many.products, 1), {})
            self.assertIs(is_change(many, 1, many.products), True)

    def test_the_bracket_of_three(self):
        rnd = random.Random(5)
        filled = 0
        for many in small_books():
            for _ in range(12):
                lengths = [rnd.randrange(min(4, many.most + 1)) for _ in range(3)]
                if sum(lengths) > many.most + 2 or sum(sorted(lengths)[1:]) > many.most + 1:
                    continue
                i, j, k = [rnd.randrange(-2, 2) for _ in range(3)]
                a, b, c = [random_change(rnd, many, more, [length]) for more, length in zip((i, j, k), lengths)]
                whole = changes_bracket(many, a, i, changes_bracket(many, b, j, c, k), j + k)
                ahead = changes_bracket(many, changes_bracket(many, a, i, b, j), i + j, c, k)
                behind = changes_bracket(many, b, j, changes_bracket(many, a, i, c, k), i + k)
                self.assertEqual(whole, together(many.prime, (1, ahead), (sign(i * j), behind)))
                filled += bool(ahead) or bool(behind)
        self.assertGreater(filled, 30)

    def test_changed_goes_over_the_bracket(self):
        rnd = random.Random(6)
        filled = 0
        for many in small_books():
            for _ in range(12):
                one, other = [rnd.randrange(max(1, min(4, many.most))) for _ in range(2)]
                if one + other > many.most:
                    continue
                i, j = rnd.randrange(-2, 2), rnd.randrange(-2, 2)
                a, b = random_change(rnd, many, i, [one]), random_change(rnd, many, j, [other])
                whole = changed(many, changes_bracket(many, a, i, b, j), i + j)
                ahead = changes_bracket(many, changed(many, a, i), i + 1, b, j)
                behind = changes_bracket(many, a, i, changed(many, b, j), j + 1)
                self.assertEqual(whole, together(many.prime, (1, ahead), (sign(i), behind)))
                filled += bool(ahead) or bool(behind)
        self.assertGreater(filled, 30)


class SizesTest(unittest.TestCase):
    def test_by_ranks(self):
        for many in small_books():
            for length in range(many.most):
                if len(many.heights) ** (length + 1) > 400:
                    continue
                for more in (-2, -1, 0, 1):
                    here = self.images(many, length, more)
                    before = self.images(many, length - 1, more - 1) if length else []
                    kept = len(here) - rank(here, many.prime)
                    told = change_sizes(many, length, more)
                    self.assertEqual(told, (len(here), kept, kept - rank(before, many.prime)))
                    self.assertIsInstance(told, tuple)
                    self.assertGreaterEqual(told[2], 0)

    def images(self, many, length, more):
        return [flat(changed(many, {word: {place: 1}}, more)) for word, place in spots(many, length, more)]

    def test_counts_of_all_changes_tried_one_by_one(self):
        tried = 0
        for many in small_books():
            for length in range(many.most):
                for more in (-1, 0, 1):
                    places = spots(many, length, more)
                    if not 0 < many.prime ** len(places) <= 300:
                        continue
                    kept = 0
                    for row in all_rows(many.prime, places):
                        change = {}
                        for (word, place), number in row.items():
                            change.setdefault(word, {})[place] = number
                        kept += not changed(many, change, more)
                    found = change_sizes(many, length, more)
                    self.assertEqual((found[0], many.prime ** found[1]), (len(places), kept))
                    tried += 0 < found[1] < found[0]
        self.assertGreater(tried, 5)

    def test_by_hand(self):
        many = Many(3, [1, 2], 5, {(0, 0, 0): {1: 1}})
        self.assertEqual(change_sizes(many, 3, 1), (1, 1, 1))
        many = Many(3, [0, 0], 5, {(0, 0): {0: 1}, (0, 1): {1: 1}, (1, 0): {1: 1}})
        self.assertEqual(change_sizes(many, 0, -1), (2, 2, 2))
        # x x is y: x to x has y for x x twice, y to y takes one away.
        many = Many(5, [1, 2], 3, {(0, 0): {1: 1}})
        self.assertEqual(change_sizes(many, 1, 0), (2, 1, 1))
        self.assertEqual(change_sizes(many, 2, 1), (1, 1, 0))
        self.assertEqual(change_sizes(Many(5, [], 3, {}), 2, 0), (0, 0, 0))
        self.assertEqual(change_sizes(Many(5, [1, 1], 1, {}), 0, 0), (2, 2, 2))

    def test_the_same_for_moved_ones(self):
        for many in least_books()[:10]:
            other = moved(many, 9).other
            for length in range(many.most):
                if len(many.heights) ** (length + 1) <= 1300:
                    for more in (-1, 0, 1):
                        self.assertEqual(change_sizes(other, length, more), change_sizes(many, length, more))

    def test_errors(self):
        many = Many(3, [1, 2], 3, {(0, 0): {1: 1}})
        for junk in NO_MANYS:
            refused(self, BadMany, "part", None, change_sizes, junk, None, None)
        refused(self, NotLeast, None, None, change_sizes, Many(3, [1, 2], 3, {(0,): {1: 1}}), None, None)
        for length in (None, True, "0", 1.0, -1, 3, 4):
            refused(self, BadNumber, "part", "length", change_sizes, many, length, None)
        for more in (None, True, "0", 1.0, ()):
            refused(self, BadNumber, "part", "turn", change_sizes, many, 2, more)
        self.assertEqual(change_sizes(turn=70, length=0, many=many), (0, 0, 0))

    def test_too_many(self):
        wide = Many(2, [0] * 15, 8, {})
        refused(self, TooMany, "most", 3000, change_sizes, wide, 2, 0)
        self.assertEqual(change_sizes(wide, 1, 0), (225, 225, 225))
        refused(self, BadNumber, "part", "turn", change_sizes, wide, 2, None)
        refused(self, BadNumber, "part", "length", change_sizes, wide, 8, 0)
        wide = Many(2, [0] * 14, 8, {})
        self.assertEqual(change_sizes(wide, 2, 1)[0], 14 ** 3)
        refused(self, TooMany, "most", 3000, change_sizes, wide, 3, 0)
        seven = Many(2, [1] * 3, 8, {})
        self.assertEqual(change_sizes(seven, 6, 0)[0], 3 ** 7)
        refused(self, TooMany, "most", 3000, change_sizes, seven, 7, 0)


class ToldChangeTest(unittest.TestCase):
    def test_what_is_made(self):
        rnd = random.Random(7)
        filled = 0
        for many in small_books():
            for more in (-1, 0, 1):
                change = changed(many, random_change(rnd, many, more - 1, range(many.most)), more - 1)
                found = untouched(self, told_change, many, change, more)
                self.assertEqual(changed(many, found, more - 1), change)
                self.assertTrue(is_ascending(found) and is_change(many, more - 1, found))
                again = {word: {k: number - many.prime for k, number in row.items()} for word, row in change.items()}
                self.assertEqual(told_change(many, again, more), found)
                filled += bool(change)
        self.assertGreater(filled, 20)

    def test_none_exactly_if_there_is_none(self):
        rnd = random.Random(8)
        told = {True: 0, False: 0}
        for many in small_books():
            for length in range(1, many.most + 1):
                for more in (0, 1):
                    places = spots(many, length, more)
                    if not places or len(many.heights) ** length > 300:
                        continue
                    rows = [flat(changed(many, {word: {place: 1}}, more - 1))
                            for word, place in spots(many, length - 1, more - 1)]
                    change = random_change(rnd, many, more, [length], rnd.choice((0.1, 0.4)))
                    wanted = rank(rows + [flat(change)], many.prime) == rank(rows, many.prime)
                    found = told_change(many, change, more)
                    self.assertEqual(found is not None, wanted)
                    told[wanted] += bool(together(many.prime, (1, change)))
        self.assertTrue(min(told.values()) > 5, told)

    def test_by_hand(self):
        many = Many(5, [1, 2], 3, {(0, 0): {1: 1}})
        self.assertEqual(told_change(many, {}, 0), {})
        self.assertEqual(told_change(many, {(0, 0): {1: 5}, (1,): {}}, 1), {})
        found = told_change(many, {(0, 0): {1: 1}}, 1)
        self.assertEqual(changed(many, found, 0), {(0, 0): {1: 1}})
        # What has a row for () is not made, nor what is of a turn that no products bring about.
        self.assertIsNone(told_change(many, {(): {0: 1}}, 0))
        self.assertIsNone(told_change(many, {(): {1: 1}, (0, 0): {1: 1}}, 1))
        self.assertIsNone(told_change(many, {(0,): {0: 1}}, 0))
        # One part of it is made, the other one is not.
        more = Many(5, [1, 2, 2], 3, {(0, 0): {1: 1}})
        self.assertIsNotNone(told_change(more, {(0, 0): {1: 1}}, 1))
        self.assertIsNone(told_change(more, {(0, 0): {1: 1}, (0,): {2: 1}}, 1))
        self.assertEqual(told_change(many, {(): {0: 5}}, 0), {})
        # The places' row for () with turn -1 is changed to rows of one place: x to h x and x h.
        ones = Many(3, [0, 1], 3, {(0, 0): {0: 1}, (0, 1): {1: 1}})
        change = changed(ones, {(): {0: 1}}, -1)
        self.assertTrue(change)
        self.assertEqual(changed(ones, told_change(ones, change, 0), -1), change)

    def test_several_lengths(self):
        many = Many(2, [0, 1], 4, {(0, 0): {0: 1}, (0, 1): {1: 1}, (1, 0): {1: 1}})
        change = {(0,): {0: 1}, (1, 1): {1: 1}, (0, 1, 1): {0: 1}}
        image = changed(many, change, 0)
        self.assertTrue(len({len(word) for word in image}) > 1)
        self.assertEqual(changed(many, told_change(many, image, 1), 0), image)

    def test_errors(self):
        many = Many(3, [1, 2], 3, {(0, 0): {1: 1}})
        stepped = Many(3, [1, 2], 3, {(0,): {1: 1}})
        for function in (changed, told_change):
            for junk in NO_MANYS:
                refused(self, BadMany, "part", None, function, junk, None, None)
            refused(self, NotLeast, None, None, function, stepped, None, None)
            for more in (None, True, "0", 1.0, ()):
                refused(self, BadNumber, "part", "turn", function, many, {}, more)
            for junk in [thing for thing in JUNK if thing != {}] + [{(0,): {1: 1}}, {(0, 0, 0, 0): {}}, {(True,): {}}]:
                refused(self, BadChange, None, None, function, many, junk, 0)
            self.assertEqual(function(turn=0, change={}, many=many), {})
        for function in (changes_put, changes_bracket):
            for junk in NO_MANYS:
                refused(self, BadMany, "part", None, function, junk, None, None, None, None)
            refused(self, NotLeast, None, None, function, stepped, None, None, None, None)
            for more in (None, True, "0", 1.0, ()):
                refused(self, BadNumber, "part", "one_turn", function, many, {}, more, {}, 0)
                refused(self, BadNumber, "part", "one_turn", function, many, {}, more, {}, more)
                refused(self, BadNumber, "part", "other_turn", function, many, {}, 0, {}, more)
            for junk in [thing for thing in JUNK if thing != {}] + [{(0,): {1: 1}}, {(0, 0, 0, 0): {}}]:
                refused(self, BadChange, None, None, function, many, junk, 0, {}, 0)
                refused(self, BadChange, None, None, function, many, {}, 0, junk, 0)
            self.assertEqual(function(other_turn=0, other={}, one_turn=1, one={}, many=many), {})

    def test_too_many(self):
        wide = Many(2, [0] * 15, 8, {})
        change = {(0, 0, 0): {0: 1}}
        refused(self, TooMany, "most", 3000, told_change, wide, change, 2)
        refused(self, BadChange, None, None, told_change, wide, change, 1)
        # Rows of noughts do not count.
        self.assertEqual(told_change(wide, {(0, 0, 0): {0: 2}, (0, 0, 0, 0): {}}, 2), {})
        self.assertIsNone(told_change(wide, {(0, 0): {0: 1}}, 1))
        fourteen = Many(2, [0] * 14, 8, {})
        self.assertIsNone(told_change(fourteen, change, 2))
        refused(self, TooMany, "most", 3000, told_change, fourteen, {(0,) * 4: {0: 1}}, 3)


if __name__ == "__main__":
    unittest.main()
