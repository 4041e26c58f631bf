import random
import unittest
from itertools import product as pairs_of

from leftproducts.choices import left_heights, left_product, made_choice
from leftproducts.errors import BadChoice, BadFrame, BadTable
from leftproducts.framedoubts import frame_doubt_of_four, frame_doubt_of_three
from leftproducts.frames import Frame
from leftproducts.leftovers import left_sizes
from leftproducts.makers import faces_frame, turning_frame, words_frame
from leftproducts.many import many_of
from leftproducts.plainmaps import is_plain_map, map_left
from leftproducts.sides import renamed
from leftproducts.tidyrows import row_less
from leftproducts.transfers import left_many
from tests.books import hidden_three
from tests.doubting import at_height, many_fine_rows
from tests.helpers import (JUNK, all_rows, clean, frame_product, frame_step, is_ascending, is_sum_of, letters_frame,
                           mixed_frame, other_choice, plus, random_rows, rank, rebased, refused, small_frames, spread,
                           untouched)
from tests.test_framedoubts import hidden_four
from tests.test_transfers import four_letters


def holds(one, other, rows):
    """What point 54 asks of a tuple of as many rows of other as one has places."""
    prime, size = one.prime, len(one.heights)
    rows = [clean(row, prime) for row in rows]
    for k in range(size):
        if {other.heights[place] for place in rows[k]} - {one.heights[k]}:
            return False
        if spread(rows, one.step.get(k, {}), prime) != frame_step(other, rows[k]):
            return False
        for j in range(size):
            if spread(rows, one.product.get((k, j), {}), prime) != frame_product(other, rows[k], rows[j]):
                return False
    return True


def to_lots(numbers, prime):
    """Each lot to itself, times the product of a number of each of its letters."""
    lots = [()]
    for letter in range(len(numbers)):
        lots = lots + [lot + (letter,) for lot in lots]
    rows = []
    for k, lot in enumerate(sorted(lots, key=lambda one: (len(one), one))):
        total = 1
        for letter in lot:
            total = total * numbers[letter] % prime
        rows.append({k: total})
    return tuple(rows)


def to_smaller_faces(faces, fewer):
    faces, fewer = [sorted(names, key=lambda face: (len(face), face)) for names in (faces, fewer)]
    return tuple({fewer.index(face): 1} if face in fewer else {} for face in faces)


def maps():
    """Triples (one, other, rows) of plain maps, as the facts of point 54 tell them and by other rows."""
    found = []
    for frame in [letters_frame(), hidden_three(), hidden_four(3), words_frame(3, [1, 1], [{}, {(0, 0): 1}], 2)]:
        order = list(range(len(frame.heights)))
        random.Random(len(order)).shuffle(order)
        found.append((frame, renamed(frame, order), tuple({order.index(k): 1} for k in range(len(order)))))
        there, back = random_rows(random.Random(3), frame.prime, frame.heights)
        found.append((frame, rebased(frame, there, back), tuple(there)))
        found.append((rebased(frame, there, back), frame, tuple(back)))
        found.append((frame, frame, ({},) * len(order)))
    circle = [(0,), (1,), (2,), (0, 1), (0, 2), (1, 2)]
    full = circle + [(0, 1, 2)]
    for prime in (2, 3):
        for faces, fewer in ((full, circle), (circle, [(0,), (1,), (2,), (0, 1)]), (circle, [(0,), (2,), (0, 2)]),
                             (full, [(1,)]), (full, []), ([(0,), (1,), (0, 1)], [(0,), (1,), (0, 1)])):
            found.append((faces_frame(prime, faces), faces_frame(prime, fewer), to_smaller_faces(faces, fewer)))
    # The step of letter 2 is the lot of 0 and 1, or a * b of it: a, b and the number of letter 2 go along.
    for prime, a, b in ((3, 1, 2), (5, 2, 3), (5, 0, 1)):
        one = turning_frame(prime, 3, [{}, {}, {(0, 1): 1}])
        other = turning_frame(prime, 3, [{}, {}, {(0, 1): a * b}])
        found.append((one, other, to_lots([a, b, 1], prime)))
        found.append((one, one, to_lots([a, b, a * b], prime)))
    one = four_letters(2)
    found.append((one, one, to_lots([1, 1, 1, 1], 2)))
    # Words of up to 3 letters to those of up to 2.
    for steps in ([{}, {(0, 0): 1}], [{(0, 0): 1}, {}]):
        one, other = words_frame(3, [1, 1], steps, 3), words_frame(3, [1, 1], steps, 2)
        found.append((one, other, tuple({k: 1} if k < 7 else {} for k in range(15))))
    return found


class IsPlainMapTest(unittest.TestCase):
    def test_the_facts(self):
        for one, other, rows in maps():
            self.assertIs(untouched(self, is_plain_map, one, other, rows), True)
            self.assertTrue(holds(one, other, rows))

    def test_one_number_changed(self):
        rnd = random.Random(1)
        told = {True: 0, False: 0}
        for one, other, rows in maps():
            for _ in range(8 if rows and other.heights else 0):
                changed = [dict(row) for row in rows]
                k, place = rnd.randrange(len(rows)), rnd.randrange(len(other.heights))
                changed[k][place] = changed[k].get(place, 0) + rnd.randrange(1, one.prime)
                wanted = holds(one, other, changed)
                self.assertIs(is_plain_map(one, other, tuple(changed)), wanted)
                told[wanted] += 1
        self.assertGreater(told[False], 100)

    def test_all_maps_of_small_frames(self):
        small = [Frame(2, [0], {(0, 0): {0: 1}}, {}), Frame(2, [0], {}, {}), Frame(2, [0, 1], {}, {0: {1: 1}}),
                 Frame(2, [0, 1], {}, {}), faces_frame(2, [(0,), (1,)]), Frame(2, [], {}, {})]
        several = 0
        for one in small:
            for other in small:
                rows = all_rows(2, range(len(other.heights)))
                found = 0
                for thing in pairs_of(rows, repeat=len(one.heights)):
                    wanted = holds(one, other, thing)
                    self.assertIs(is_plain_map(one, other, thing), wanted)
                    found += wanted
                several += found > 1
        self.assertGreater(several, 8)

    def test_any_value(self):
        frame = Frame(3, [0, 1], {}, {0: {1: 1}})
        good = ({0: 2}, {1: 2})
        self.assertIs(is_plain_map(frame, frame, good), True)
        self.assertIs(is_plain_map(frame, frame, ({0: -1, 1: 3}, {1: 5, 0: 0})), True)
        for junk in JUNK + (list(good), good[:1], good + ({},), (None, {1: 2}), ([], {1: 2}), ({0: 2}, {1: 1}),
                            ({0: 2}, {}), ({1: 1}, {})):
            self.assertIs(is_plain_map(frame, frame, junk), False)
        for row in ({0: True}, {True: 2}, {0: 2, 2: 0}, {-1: 0, 0: 2}, {0: 2.0}, {0: "2"}, {"0": 2}, {None: 2}):
            self.assertIs(is_plain_map(frame, frame, (row, {1: 2})), False)
        other = Frame(5, [0, 1], {}, {0: {1: 1}})
        for rows in (({}, {}), None, good):
            self.assertIs(is_plain_map(frame, other, rows), False)
            self.assertIs(is_plain_map(other, frame, rows), False)
        self.assertIs(is_plain_map(rows=(), other=frame, one=Frame(3, [], {}, {})), True)

    def test_errors(self):
        frame = letters_frame()
        for junk in (None, 0, True, "x", {}, (), Frame, many_of(frame, 2)):
            refused(self, BadFrame, "part", None, is_plain_map, junk, junk, None)
            refused(self, BadFrame, "part", None, is_plain_map, frame, junk, None)
            refused(self, BadFrame, "part", None, is_plain_map, junk, frame, None)


class MapLeftTest(unittest.TestCase):
    def test_by_the_rule(self):
        for one, other, rows in maps():
            choice, mate = other_choice(one, 1), other_choice(other, 2)
            led = untouched(self, map_left, one, choice, other, mate, rows)
            wanted = [spread(mate[1], spread(rows, row, one.prime), one.prime) for row in choice[0]]
            self.assertEqual(led, tuple(wanted))
            self.assertTrue(all(is_ascending(row) for row in led))
            levels, aims = left_heights(one, choice), left_heights(other, mate)
            self.assertTrue(all(aims[k] == levels[place] for place, row in enumerate(led) for k in row))

    def test_it_goes_along_with_left_product(self):
        for one, other, rows in maps():
            choice, mate = made_choice(one), other_choice(other, 3)
            led = map_left(one, choice, other, mate, rows)
            here, there = left_product(one, choice), left_product(other, mate)
            for a, b in pairs_of(range(len(led)), repeat=2):
                total = {}
                for i, n in led[a].items():
                    for j, m in led[b].items():
                        plus(total, there.get((i, j), {}), n * m)
                self.assertEqual(clean(total, one.prime), spread(led, here.get((a, b), {}), one.prime))

    def test_it_is_the_same_for_all_choices(self):
        for one, other, rows in maps():
            choice, again = made_choice(one), other_choice(one, 4)
            mate, next_mate = made_choice(other), other_choice(other, 5)
            led, led_again = map_left(one, choice, other, mate, rows), map_left(one, again, other, next_mate, rows)
            here = [spread(again[1], row, one.prime) for row in choice[0]]
            there = [spread(next_mate[1], row, one.prime) for row in mate[0]]
            for k in range(len(led)):
                self.assertEqual(spread(led_again, here[k], one.prime), spread(there, led[k], one.prime))

    def test_errors(self):
        frame, other = letters_frame(), Frame(3, [0, 1], {}, {0: {1: 1}})
        choice, mate = made_choice(frame), made_choice(other)
        nothing = ({},) * 8
        for junk in (None, 0, True, "x", {}, (), Frame, many_of(frame, 2)):
            refused(self, BadFrame, "part", None, map_left, junk, None, junk, None, None)
            refused(self, BadFrame, "part", None, map_left, frame, None, junk, None, None)
            refused(self, BadFrame, "part", None, map_left, junk, choice, other, mate, nothing)
        for junk in JUNK + (mate, list(choice), choice[:2]):
            refused(self, BadChoice, None, None, map_left, frame, junk, other, None, None)
            refused(self, BadChoice, None, None, map_left, frame, junk, other, mate, nothing)
        for junk in JUNK + (choice, list(mate), mate[:2]):
            refused(self, BadChoice, None, None, map_left, frame, choice, other, junk, None)
        for junk in JUNK + (list(nothing), nothing[:7], ({1: 1},) + nothing[1:], ({0: 1},) + nothing[1:]):
            refused(self, BadTable, None, None, map_left, frame, choice, other, mate, junk)
        five = Frame(5, [], {}, {})
        refused(self, BadTable, None, None, map_left, frame, choice, five, ((), (), ()), nothing)
        self.assertEqual(map_left(rows=nothing, mate=mate, other=other, choice=choice, one=frame), ({},) * 6)


class DoubtsTest(unittest.TestCase):
    def look(self, one, choice, other, mate, rows, length):
        function = frame_doubt_of_three if length == 3 else frame_doubt_of_four
        prime = one.prime
        led = map_left(one, choice, other, mate, rows)
        levels = left_heights(one, choice)
        same = left_sizes(one) == left_sizes(other) and rank(led, prime) == len(led)
        many = left_many(one, choice, 2)
        for fine in many_fine_rows(many, random.Random(length), length, 6):
            images = [spread(led, row, prime) for row in fine]
            high = [levels[min(clean(row, prime))] for row in fine]
            size = sum(max(len(at_height(heights, high[k] + high[k + 1] - 1))
                           for heights in (levels, left_heights(other, mate))) for k in range(3 if length == 4 else 0))
            if not all(images) or prime ** size > 6561:
                continue
            here, there = function(one, choice, *fine), function(other, mate, *images)
            if here is None:
                self.assertTrue(not same or there is None)
                continue
            self.assertIsNotNone(there)
            self.assertTrue(all(is_sum_of(spread(led, row, prime), there[1], prime) for row in here[1]))
            lot, aims = (here[0], there[0]) if length == 4 else ([here[0]], [there[0]])
            lot = [row_less(prime, there[1], spread(led, row, prime)) for row in lot]
            self.assertTrue(all(row in aims for row in lot))
            self.looked += 1
            self.busy += any(lot)
            if same:
                self.sames += 1
                self.assertTrue(all(row in lot for row in aims))
                self.assertEqual(rank([spread(led, row, prime) for row in here[1]], prime), len(there[1]))

    def test_of_three_and_four(self):
        for length in (3, 4):
            self.looked = self.busy = self.sames = 0
            for one, other, rows in maps():
                self.look(one, made_choice(one), other, other_choice(other, 6), rows, length)
                self.look(one, other_choice(one, 7), other, made_choice(other), rows, length)
            self.assertTrue(self.looked > 20 and self.busy > 4 and self.sames > 4, (self.looked, self.busy, self.sames))

    def test_frames_that_grow(self):
        # hidden_three and two places more, the second one the step of the first one: to it and back.
        frame = hidden_three(3)
        more = Frame(3, frame.heights + (0, 1), frame.product, {**frame.step, 4: {5: 1}})
        self.looked = self.busy = self.sames = 0
        there, back = tuple({k: 1} for k in range(4)), tuple({k: 1} if k < 4 else {} for k in range(6))
        mixed = mixed_frame(more, 1)
        self.look(frame, made_choice(frame), more, other_choice(more, 8), there, 3)
        self.look(more, other_choice(more, 9), frame, made_choice(frame), back, 3)
        self.assertIs(is_plain_map(frame, mixed, there), holds(frame, mixed, there))
        self.assertTrue(self.busy > 2 and self.sames == self.looked)

    def test_small_frames_to_themselves(self):
        self.looked = self.busy = self.sames = 0
        for frame in small_frames():
            rows = tuple({k: 1} for k in range(len(frame.heights)))
            self.look(frame, made_choice(frame), frame, other_choice(frame, 9), rows, 3)
        self.assertTrue(self.looked == self.sames > 20)


if __name__ == "__main__":
    unittest.main()
