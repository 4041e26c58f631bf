import random
import unittest
from itertools import product as pairs_of

from leftproducts.choices import is_choice, left_heights, left_product, made_choice
from leftproducts.errors import BadChoice, BadFrame
from leftproducts.frames import Frame
from leftproducts.leftovers import left_sizes
from leftproducts.makers import turning_frame
from tests.helpers import (JUNK, all_rows, clean, frame_product, is_ascending, letters_frame, mixed_frame, other_choice, plus,
                           refused, small_frames, spread, untouched)


def holds(frame, thing):
    """What point 21 asks of a triple of tuples of rows of the right sizes, rule by rule."""
    prime, heights, size = frame.prime, frame.heights, len(frame.heights)
    within, onto, undo = [[clean(row, prime) for row in rows] for rows in thing]
    steps = [frame.step.get(k, {}) for k in range(size)]
    if any(len({heights[k] for k in row}) != 1 for row in within):
        return False
    levels = [heights[min(row)] for row in within]
    for k, row in enumerate(within):
        if spread(steps, row, prime) or spread(undo, row, prime) or spread(onto, row, prime) != {k: 1}:
            return False
    for place in range(size):
        if {levels[k] for k in onto[place]} - {heights[place]}:
            return False
        if {heights[k] for k in undo[place]} - {heights[place] - 1}:
            return False
        if spread(onto, steps[place], prime) or spread(onto, undo[place], prime):
            return False
        if spread(undo, undo[place], prime):
            return False
        total = {place: 1}
        plus(total, spread(steps, undo[place], prime), 1)
        plus(total, spread(undo, steps[place], prime), 1)
        plus(total, spread(within, onto[place], prime), -1)
        if clean(total, prime):
            return False
    return True


# x (0) and its step y (1), and z (2) that is left; y stands at place 2, z at place 1.
PRIME = 3
STEPPED = Frame(PRIME, [0, 1, 1], {}, {0: {2: 1}})
GOOD = (({1: 1},), ({}, {0: 1}, {}), ({}, {}, {0: 2}))


class IsChoiceTest(unittest.TestCase):
    def test_by_hand(self):
        self.assertIs(is_choice(STEPPED, GOOD), True)
        # Numbers beyond the prime, below 0 and of rest 0.
        within, onto, undo = GOOD
        self.assertTrue(is_choice(STEPPED, (({1: 4, 2: 3},), ({0: 3}, {0: -2}, {}), ({2: 3}, {0: 0}, {0: -1}))))
        # z and y together stand for the same leftover.
        self.assertTrue(is_choice(STEPPED, (({1: 1, 2: 1},), onto, ({}, {0: 1}, {0: 2}))))
        self.assertFalse(is_choice(STEPPED, (({1: 1, 2: 1},), onto, undo)))
        self.assertTrue(is_choice(Frame(3, [], {}, {}), ((), (), ())))
        self.assertFalse(is_choice(Frame(3, [], {}, {}), (({},), (), ())))

    def test_kinds(self):
        for junk in JUNK:
            self.assertIs(is_choice(STEPPED, junk), False)
        within, onto, undo = GOOD
        for wrong in ([within, onto, undo], (within, onto), (within, onto, undo, ()), (list(within), onto, undo),
                      (within, list(onto), undo), (within, onto, list(undo)), (within, onto[:2], undo),
                      (within, onto + ({},), undo), (within, onto, undo[:2]), (within, onto, undo + ({},)),
                      (None, onto, undo), (within, {}, undo), (within, onto, 0), ((), onto, undo),
                      (within + ({},), onto, undo), ((None,), onto, undo), (([],), onto, undo)):
            self.assertIs(is_choice(STEPPED, wrong), False)
        for row in ({1: True}, {True: 1}, {3: 0, 1: 1}, {-1: 0, 1: 1}, {1: 1.0}, {1: "1"}, {"1": 1, 1: 1}, [1], None):
            self.assertIs(is_choice(STEPPED, ((row,), onto, undo)), False)
        for row in ({0: True}, {False: 1}, {0: 1, 1: 0}, {0: 1, -1: 0}, {0: 1.0}, {0: 1, None: 1}, (0,), None):
            self.assertIs(is_choice(STEPPED, (within, ({}, row, {}), undo)), False)
        for row in ({0: True}, {False: 2}, {0: 2, 3: 0}, {0: 2, -1: 0}, {0: 2.0}, {0: 2, None: 1}, (0,), None):
            self.assertIs(is_choice(STEPPED, (within, onto, ({}, {}, row))), False)

    def test_one_rule_broken(self):
        # A row within of two heights, or of noughts.
        frame = Frame(3, [0, 1], {}, {})
        undo = ({}, {})
        self.assertTrue(is_choice(frame, (({0: 1}, {1: 1}), ({0: 1}, {1: 1}), undo)))
        self.assertFalse(is_choice(frame, (({0: 1, 1: 1}, {1: 1}), ({0: 1, 1: 2}, {1: 1}), undo)))
        self.assertFalse(is_choice(frame, (({0: 3}, {1: 1}), ({0: 1}, {1: 1}), undo)))
        # onto of a row within is not the leftover alone.
        self.assertFalse(is_choice(Frame(3, [0], {}, {}), (({0: 1}, {0: 1}), ({0: 1},), ({},))))
        self.assertFalse(is_choice(Frame(3, [0], {}, {}), (({0: 1},), ({0: 2},), ({},))))
        # undo leads to a place that is not one lower.
        frame = Frame(2, [0, 1], {}, {0: {1: 1}})
        self.assertTrue(is_choice(frame, ((), ({}, {}), ({}, {0: 1}))))
        self.assertFalse(is_choice(frame, ((), ({}, {}), ({0: 1, 1: 1}, {0: 1, 1: 1}))))
        # What is undone is not all.
        self.assertFalse(is_choice(frame, ((), ({}, {}), ({}, {}))))
        self.assertFalse(is_choice(Frame(3, [0, 1], {}, {0: {1: 1}}), ((), ({}, {}), ({}, {0: 1}))))
        self.assertTrue(is_choice(Frame(3, [0, 1], {}, {0: {1: 1}}), ((), ({}, {}), ({}, {0: 2}))))
        # undo of undo alone is not nothing.
        frame = Frame(3, [0, 1, -2, -1], {}, {0: {1: 1}, 2: {3: 1}})
        nothing = ({}, {}, {}, {})
        self.assertTrue(is_choice(frame, ((), nothing, ({}, {0: 2}, {}, {2: 2}))))
        self.assertFalse(is_choice(frame, ((), nothing, ({3: 1}, {0: 2}, {}, {2: 2}))))

    def test_all_triples_of_small_frames(self):
        cases = [(Frame(2, [0, 1], {}, {}), 2), (Frame(2, [0, 1], {}, {0: {1: 1}}), 0), (Frame(3, [0, 1], {}, {}), 1),
                 (Frame(2, [0, 0, 1], {}, {0: {2: 1}}), 1), (Frame(2, [0], {}, {}), 2)]
        for frame, many in cases:
            size, prime = len(frame.heights), frame.prime
            found = 0
            for within in pairs_of(all_rows(prime, range(size)), repeat=many):
                for onto in pairs_of(all_rows(prime, range(many)), repeat=size):
                    for undo in pairs_of(all_rows(prime, range(size)), repeat=size):
                        wanted = holds(frame, (within, onto, undo))
                        found += wanted
                        if is_choice(frame, (within, onto, undo)) != wanted:
                            self.fail((frame.heights, within, onto, undo))
            self.assertEqual(found > 0, many == len(made_choice(frame)[0]))

    def test_choices_with_one_number_changed(self):
        rnd = random.Random(11)
        for frame in small_frames():
            size = len(frame.heights)
            for seed in range(4 if size else 0):
                choice = [[dict(row) for row in rows] for rows in other_choice(frame, seed)]
                part = rnd.randrange(3)
                if not choice[part] or (part == 1 and not choice[0]):
                    continue
                row = rnd.choice(choice[part])
                place = rnd.randrange(len(choice[0]) if part == 1 else size)
                row[place] = row.get(place, 0) + rnd.randrange(1, frame.prime)
                thing = tuple(tuple(rows) for rows in choice)
                self.assertIs(is_choice(frame, thing), holds(frame, thing))

    def test_errors(self):
        for junk in (None, 0, True, "x", {}, Frame):
            refused(self, BadFrame, "part", None, is_choice, junk, GOOD)
            refused(self, BadFrame, "part", None, made_choice, junk)
            refused(self, BadFrame, "part", None, left_heights, junk, None)
            refused(self, BadFrame, "part", None, left_product, junk, None)
        for junk in JUNK + ((GOOD[0], GOOD[1], ({}, {}, {})),):
            refused(self, BadChoice, None, None, left_heights, STEPPED, junk)
            refused(self, BadChoice, None, None, left_product, STEPPED, junk)


class MadeChoiceTest(unittest.TestCase):
    def test_there_always_is_one(self):
        for frame in small_frames() + [turning_frame(31, 5, [{}, {}, {(0, 1): 1}, {(0, 2): 5}, {}])]:
            for seed in range(3):
                mixed = mixed_frame(frame, seed)
                choice = untouched(self, made_choice, mixed)
                self.assertTrue(holds(mixed, choice))
                self.assertIs(is_choice(mixed, choice), True)
                self.assertEqual(choice, made_choice(Frame(mixed.prime, mixed.heights, mixed.product, mixed.step)))
                heights = left_heights(mixed, choice)
                sizes = {height: heights.count(height) for height in sorted(set(heights))}
                self.assertEqual(sizes, left_sizes(mixed))
                self.assertTrue(all(is_ascending(row) for rows in choice for row in rows))
                self.assertIsInstance(choice, tuple)
                self.assertTrue(all(isinstance(rows, tuple) for rows in choice))

    def test_it_is_new(self):
        frame = letters_frame()
        choice = made_choice(frame)
        for rows in choice:
            for row in rows:
                row[0] = 7
        self.assertEqual(frame, letters_frame())
        self.assertTrue(is_choice(frame, made_choice(frame)))

    def test_nothing_is_lost_without_steps(self):
        frame = Frame(5, [3, -2, 3], {}, {})
        within, onto, undo = made_choice(frame)
        self.assertEqual(len(within), 3)
        self.assertEqual(undo, ({}, {}, {}))

    def test_other_choices(self):
        for frame in small_frames():
            for seed in range(3):
                choice = other_choice(frame, seed)
                self.assertTrue(holds(frame, choice))
                self.assertIs(untouched(self, is_choice, frame, choice), True)
                heights = left_heights(frame, choice)
                self.assertEqual(sorted(heights), sorted(left_heights(frame, made_choice(frame))))
                self.assertEqual(heights, tuple(frame.heights[min(row)] for row in choice[0]))


class LeftProductTest(unittest.TestCase):
    def test_letters_by_hand(self):
        frame = letters_frame()
        within, onto = [({0: 1}, {1: 1}, {2: 1}, {5: 1}, {6: 1}, {7: 1}),
                        ({0: 1}, {1: 1}, {2: 1}, {}, {}, {3: 1}, {4: 1}, {5: 1})]
        undo = ({}, {}, {}, {}, {3: -1}, {}, {}, {})
        choice = (within, onto, undo)
        self.assertEqual(left_heights(frame, choice), (0, 1, 1, 2, 2, 3))
        told = {(0, k): {k: 1} for k in range(6)}
        told.update({(k, 0): {k: 1} for k in range(6)})
        # 0 behind (1, 2) passes two letters, 1 behind (0, 2) one of them.
        told.update({(1, 4): {5: 1}, (4, 1): {5: 1}, (2, 3): {5: 2}, (3, 2): {5: 2}})
        self.assertEqual(left_product(frame, choice), told)

    def test_by_the_rule(self):
        for frame in small_frames():
            for choice in (made_choice(frame), other_choice(frame, 5)):
                within, onto, _ = choice
                table = untouched(self, left_product, frame, choice)
                self.assertTrue(is_ascending(table))
                for a, one in enumerate(within):
                    for b, other in enumerate(within):
                        wanted = spread(onto, frame_product(frame, one, other), frame.prime)
                        self.assertEqual(table.get((a, b), {}), wanted)
                # Free of brackets: it is the product of a frame without a step.
                Frame(frame.prime, left_heights(frame, choice), table, {})

    def test_another_choice_gives_the_same_but_for_a_change(self):
        for frame in small_frames():
            one, other = made_choice(frame), other_choice(frame, 6)
            prime = frame.prime
            change = [spread(other[1], row, prime) for row in one[0]]
            back = [spread(one[1], row, prime) for row in other[0]]
            for k, row in enumerate(change):
                self.assertEqual(spread(back, row, prime), {k: 1})
            first, second = left_product(frame, one), left_product(frame, other)
            for a, left in enumerate(change):
                for b, right in enumerate(change):
                    total = {}
                    for i, n in left.items():
                        for j, m in right.items():
                            plus(total, second.get((i, j), {}), n * m)
                    self.assertEqual(clean(total, prime), spread(change, first.get((a, b), {}), prime))

    def test_numbers_of_a_choice_are_taken_modulo_the_prime(self):
        frame = letters_frame()
        choice = made_choice(frame)
        shifted = tuple(tuple({k: number - 3 for k, number in row.items()} for row in rows) for rows in choice)
        self.assertTrue(is_choice(frame, shifted))
        self.assertEqual(left_product(frame, shifted), left_product(frame, choice))
        self.assertEqual(left_heights(frame, shifted), left_heights(frame, choice))

    def test_named_parameters(self):
        frame = letters_frame()
        choice = made_choice(frame=frame)
        self.assertIs(is_choice(thing=choice, frame=frame), True)
        self.assertEqual(left_heights(choice=choice, frame=frame), left_heights(frame, choice))
        self.assertEqual(left_product(choice=choice, frame=frame), left_product(frame, choice))


if __name__ == "__main__":
    unittest.main()
