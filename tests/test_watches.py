import random
import unittest

from leftproducts.errors import BadName, BadRow, NoWatch
from leftproducts.frames import Frame
from leftproducts.leftovers import is_left, is_made
from leftproducts.live import LiveFrame
from leftproducts.makers import faces_frame, turning_frame
from leftproducts.rows import multiplied, stepped
from tests.helpers import (JUNK, circle_frame, clean, is_ascending, letters_frame, random_row, refused, untouched)
from tests.lives import ThreeByRows, letters_with_more, live_frames, random_deed, row_after

NO_NAMES = tuple(junk for junk in JUNK if junk != "ab") + (
    "", "A", "abcdefghi", "a1", "a b", " a", "a ", "a_", "a-b", "\u00e4", "\u0430", "a\n", b"abc", ("a",), ["a"])
NO_ROWS = (None, 0, True, "x", (), [], {8: 1}, {-1: 1}, {True: 1}, {0: True}, {0: 1.0}, {0: "1"}, {"0": 1}, {(0,): 1},
           {8: 0}, [(0, 1)])


def watched_of(frame, rows):
    return {name: (rows[name], is_left(frame, rows[name]), is_made(frame, rows[name])) for name in sorted(rows)}


class WatchTest(unittest.TestCase):
    def test_by_hand(self):
        live = LiveFrame(letters_frame())
        self.assertIsNone(live.watch("x", {1: 1}))
        live.watch("xy", {4: -1, 0: 3})
        live.watch("last", {3: 4})
        live.watch("abcdefgh", {})
        self.assertEqual(live.watched(), {"abcdefgh": ({}, True, True), "last": ({3: 1}, False, False),
                                          "x": ({1: 1}, True, False), "xy": ({4: 2}, True, True)})
        self.assertEqual(list(live.watched()), ["abcdefgh", "last", "x", "xy"])
        # What had the name is no longer watched.
        live.watch(name="x", row={2: 1, 1: 5})
        self.assertEqual(live.watched()["x"], ({1: 2, 2: 1}, True, False))
        self.assertEqual(list(live.watched()["x"][0]), [1, 2])
        self.assertIsNone(live.unwatch("x"))
        self.assertEqual(list(live.watched()), ["abcdefgh", "last", "xy"])
        refused(self, NoWatch, "name", "x", live.unwatch, "x")
        live.unwatch(name="last")
        self.assertEqual(list(live.watched()), ["abcdefgh", "xy"])
        self.assertEqual((live.standing, live.deeds()), (0, []))

    def test_kinds_of_what_is_returned(self):
        live = LiveFrame(letters_frame())
        live.watch("b", {5: 1, 4: 1})
        live.watch("a", {7: 2})
        told = live.watched()
        self.assertTrue(all(isinstance(triple, tuple) and len(triple) == 3 for triple in told.values()))
        for row, left, made in told.values():
            self.assertTrue(is_ascending(row))
            self.assertIs(type(left), bool)
            self.assertIs(type(made), bool)

    def test_errors(self):
        live = LiveFrame(letters_frame())
        live.watch("a", {1: 1})
        seen = live.watched()
        for name in NO_NAMES:
            refused(self, BadName, None, None, live.watch, name, {1: 1})
            refused(self, BadName, None, None, live.watch, name, None)
        for row in NO_ROWS:
            refused(self, BadRow, None, None, live.watch, "a", row)
            refused(self, BadRow, None, None, live.watch, "b", row)
        self.assertEqual(live.watched(), seen)
        for name in NO_NAMES + ("b", "aa", {"a": 1}, [["a"]], {1: []}):
            refused(self, NoWatch, None, None, live.unwatch, name)
        with self.assertRaises(NoWatch) as caught:
            live.unwatch(["a"])
        self.assertEqual(caught.exception.name, ["a"])
        self.assertEqual(live.watched(), seen)

    def test_rows_are_of_the_present_frame(self):
        live = LiveFrame(letters_frame())
        live.do(("part", [7]))
        refused(self, BadRow, None, None, live.watch, "a", {7: 1})
        live.watch("a", {0: 1})
        live.do(("beside", turning_frame(3, 1, [{}])))
        live.watch("b", {1: 1})
        self.assertEqual(live.watched(), {"a": ({0: 1}, True, False), "b": ({1: 1}, True, False)})

    def test_what_is_handed_in_and_returned_may_be_changed(self):
        live = LiveFrame(letters_frame())
        row = {1: 4, 2: 1}
        live.watch("a", row)
        row.clear()
        live.watched()["a"][0].clear()
        live.watched().clear()
        self.assertEqual(live.watched(), {"a": ({1: 1, 2: 1}, True, False)})
        untouched(self, live.watch, "b", {3: 7, 2: 0})
        live.do(("turn",))
        live.watched()["a"][0][5] = 1
        live.undo()
        self.assertEqual(live.watched(), {"a": ({1: 1, 2: 1}, True, False), "b": ({3: 1}, False, False)})


class AlongTest(unittest.TestCase):
    def test_by_hand(self):
        live = LiveFrame(letters_frame())
        live.watch("a", {1: 1, 2: 2})
        live.watch("b", {3: 1, 7: 1})
        live.do(("turn",))
        self.assertEqual(live.watched()["a"][0], {1: 1, 2: 2})
        # Place order[k] becomes k.
        live.do(("rename", [1, 0, 3, 2, 7, 6, 5, 4]))
        self.assertEqual(live.watched()["a"][0], {0: 1, 3: 2})
        self.assertEqual(live.watched()["b"][0], {2: 1, 4: 1})
        # The number at other becomes it less number times the number at place.
        live.do(("mix", 0, 3, 1))
        self.assertEqual(live.watched()["a"][0], {0: 1, 3: 1})
        live.do(("mix", 3, 0, -1))
        self.assertEqual(live.watched()["a"][0], {0: 2, 3: 1})
        live.do(("mix", 3, 2, 2))
        self.assertEqual(live.watched()["a"][0], {0: 2, 2: 1, 3: 1})
        self.assertEqual(live.watched()["b"][0], {2: 1, 4: 1})
        # The number at place is divided by number.
        live.do(("scale", 0, 2))
        self.assertEqual(live.watched()["a"][0], {0: 1, 2: 1, 3: 1})

    def test_part_and_beside(self):
        live = LiveFrame(letters_frame())
        for name, row in (("a", {4: 1, 7: 2}), ("b", {7: 1}), ("c", {1: 1}), ("d", {4: 1, 0: 1}), ("e", {})):
            live.watch(name, row)
        live.do(("part", [4, 5, 6, 7]))
        self.assertEqual({name: row for name, (row, _, _) in live.watched().items()},
                         {"a": {0: 1, 3: 2}, "b": {3: 1}, "e": {}})
        live.do(("beside", faces_frame(3, [(0,), (1,)])))
        self.assertEqual({name: row for name, (row, _, _) in live.watched().items()},
                         {"a": {0: 1, 1: 1, 6: 2, 7: 2}, "b": {6: 1, 7: 1}, "e": {}})
        # Beside a frame without a one all are let go.
        live.do(("beside", Frame(3, [0], {}, {})))
        self.assertEqual(live.watched(), {})
        live.undo()
        self.assertEqual(list(live.watched()), ["a", "b", "e"])
        # Without places {} is the one.
        live.do(("beside", Frame(3, [], {}, {})))
        self.assertEqual(live.watched(), {name: ({}, True, True) for name in "abe"})
        for _ in range(3):
            live.undo()
        self.assertEqual(list(live.watched()), ["a", "b", "c", "d", "e"])
        self.assertEqual(live.watched()["d"][0], {0: 1, 4: 1})

    def test_they_are_the_same_rows(self):
        rnd = random.Random(4)
        gone = 0
        for frame in live_frames() * 3:
            live = LiveFrame(frame)
            rows = {}
            for name in ("a", "bb", "c", "zzzzzzzz"):
                if rnd.random() < 0.7:
                    rows[name] = clean(random_row(rnd, frame.prime, len(frame.heights)), frame.prime)
                    live.watch(name, rows[name])
            for _ in range(6):
                deed = random_deed(rnd, live.frame)
                led = {name: row_after(live.frame, deed, row) for name, row in rows.items()}
                live.do(deed)
                gone += any(row is None for row in led.values())
                rows = {name: row for name, row in led.items() if row is not None}
                self.assertEqual(live.watched(), watched_of(live.frame, rows))
                self.assertTrue(all(is_ascending(row) for row, _, _ in live.watched().values()))
        self.assertGreater(gone, 10)

    def test_products_and_steps_go_along(self):
        rnd = random.Random(5)
        for frame in live_frames():
            live = LiveFrame(frame)
            one, other = (random_row(rnd, frame.prime, len(frame.heights)) for _ in range(2))
            live.watch("a", one)
            live.watch("b", other)
            live.watch("ab", multiplied(frame, one, other))
            live.watch("da", stepped(frame, one))
            for _ in range(6):
                live.do(random_deed(rnd, live.frame, ("rename", "mix", "scale")))
                rows = {name: row for name, (row, _, _) in live.watched().items()}
                self.assertEqual(multiplied(live.frame, rows["a"], rows["b"]), rows["ab"])
                self.assertEqual(stepped(live.frame, rows["a"]), rows["da"])

    def test_left_and_made_stay(self):
        rnd = random.Random(6)
        for frame in live_frames():
            live = LiveFrame(frame)
            size = len(frame.heights)
            live.watch("a", random_row(rnd, frame.prime, size))
            live.watch("b", stepped(frame, random_row(rnd, frame.prime, size)))
            live.watch("c", {k: 1 for k in range(size) if k not in frame.step})
            told = {name: triple[1:] for name, triple in live.watched().items()}
            for _ in range(6):
                live.do(random_deed(rnd, live.frame, ("turn", "rename", "mix", "scale")))
                self.assertEqual({name: triple[1:] for name, triple in live.watched().items()}, told)

    def test_undo_brings_back_what_was_just_ahead(self):
        live = LiveFrame(letters_frame())
        live.watch("a", {1: 1})
        live.watch("b", {7: 1})
        live.do(("part", [4, 5, 6, 7]))
        self.assertEqual(live.watched(), {"b": ({3: 1}, True, False)})
        live.watch("c", {0: 1})
        live.watch("b", {1: 1})
        live.undo()
        # The names are what they were just ahead of the deed; what was watched behind it is gone.
        self.assertEqual({name: row for name, (row, _, _) in live.watched().items()}, {"a": {1: 1}, "b": {7: 1}})
        live.redo()
        self.assertEqual({name: row for name, (row, _, _) in live.watched().items()}, {"b": {3: 1}})
        live.undo()
        # What is watched or not between goes along with the deed done again.
        live.unwatch("b")
        live.watch("d", {6: 1, 5: 2})
        live.redo()
        self.assertEqual({name: row for name, (row, _, _) in live.watched().items()}, {"d": {1: 2, 2: 1}})
        live.undo()
        self.assertEqual(list(live.watched()), ["a", "d"])

    def test_undo_over_several_deeds(self):
        rnd = random.Random(7)
        for frame in live_frames():
            live = LiveFrame(frame)
            seen = []
            for _ in range(5):
                if rnd.random() < 0.7:
                    live.watch(rnd.choice(("a", "b", "c")), random_row(rnd, frame.prime, len(live.frame.heights)))
                seen.append((live.frame, live.watched()))
                live.do(random_deed(rnd, live.frame))
            for frame_then, watched in reversed(seen):
                live.undo()
                self.assertEqual((live.frame, live.watched()), (frame_then, watched))


class ThreeTest(unittest.TestCase):
    def live_with(self, frame, *rows):
        live = LiveFrame(frame)
        for name, row in zip("abc", rows):
            live.watch(name, row)
        return live

    def test_by_hand(self):
        # x x y: the product x y is the step of the last letter z; x z is left, and no sum of what is let.
        letters = letters_frame()
        live = self.live_with(letters, {1: 1}, {2: 1}, {})
        self.assertIs(live.three("a", "a", "b"), False)
        self.assertIs(live.three("a", "b", "b"), False)
        self.assertIs(live.three("a", "a", "a"), True)
        # {} as one of them: its product with the others is the step of nothing.
        for names in ("caa", "aca", "aac", "ccc", "cbc"):
            self.assertIs(live.three(*names), True)
        self.assertIs(live.three(one="a", other="a", last="b"), False)
        # Three places hidden: x x is made, and three of x are y.
        hidden = Frame(3, [1, 1, 2, 2], {(0, 0): {2: 1}, (0, 1): {3: 1}}, {1: {2: 1}})
        live = self.live_with(hidden, {0: 1}, {3: 1}, {2: 1})
        self.assertIs(live.three("a", "a", "a"), False)

    def test_none(self):
        letters = letters_frame()
        # Of several heights; not left; products that are not made.
        live = self.live_with(letters, {1: 1}, {1: 1, 4: 1}, {3: 1})
        live.watch("d", {6: 1})
        for names in ("aab", "aba", "baa", "bbb", "aac", "aca", "caa", "cac"):
            self.assertIsNone(live.three(*names))
        live = self.live_with(circle_frame(), {0: 1, 1: 1, 2: 1}, {3: 1}, {})
        self.assertIsNone(live.three("a", "a", "a"))
        self.assertIsNone(live.three("a", "a", "c"))
        self.assertIsNone(live.three("c", "a", "a"))
        self.assertIs(live.three("a", "c", "a"), True)

    def test_names_that_are_not_watched(self):
        live = self.live_with(letters_frame(), {1: 1}, {3: 1})
        refused(self, NoWatch, "name", "c", live.three, "a", "c", "d")
        refused(self, NoWatch, "name", "d", live.three, "d", "c", "a")
        refused(self, NoWatch, "name", "x", live.three, "b", "b", "x")
        for junk in JUNK + ("", "A", ["a"], {"a": 1}):
            for names in ((junk, "x", "y"), ("a", junk, "y"), ("a", "a", junk)):
                with self.assertRaises(NoWatch) as caught:
                    live.three(*names)
                self.assertIs(caught.exception.name, junk)

    def test_by_all_rows(self):
        rnd = random.Random(8)
        seen = {True: 0, False: 0, None: 0}
        for frame in letters_with_more():
            three = ThreeByRows(frame)
            for rows in self.some_rows(rnd, frame, 40):
                answer = self.live_with(frame, *rows).three("a", "b", "c")
                self.assertIs(answer, three.told(*rows))
                seen[answer] += 1
        self.assertGreater(min(seen.values()), 10, seen)

    def some_rows(self, rnd, frame, many):
        """Lists of three rows, most of them left, and of one height each."""
        places = range(len(frame.heights))
        pool = [{}] + [{k: 1} for k in places] + [frame.step[k] for k in frame.step]
        for height in sorted(set(frame.heights)):
            level = [k for k in places if frame.heights[k] == height]
            pool += [clean({k: rnd.randrange(frame.prime) for k in level}, frame.prime) for _ in range(3)]
        left = [row for row in pool if is_left(frame, row)]
        low = [row for row in left if row and frame.heights[min(row)] == 1] or left
        found = [[rnd.choice(rows) for _ in range(3)] for rows in (left, low) for _ in range(many)]
        return found + [[rnd.choice(pool) for _ in range(3)] for _ in range(many // 3)]

    def test_stays_by_deeds(self):
        rnd = random.Random(9)
        seen = {True: 0, False: 0, None: 0}
        for frame in letters_with_more() + [letters_frame()] * 2:
            for rows in self.some_rows(rnd, frame, 15):
                live = self.live_with(frame, *rows)
                answer = live.three("a", "b", "c")
                names = "abc"
                for _ in range(3):
                    deed = random_deed(rnd, live.frame, ("turn", "rename", "mix", "scale"))
                    live.do(deed)
                    names = names[::-1] if deed == ("turn",) else names
                    self.assertIs(live.three(*names), answer)
                seen[answer] += 1
        self.assertGreater(min(seen.values()), 8, seen)


if __name__ == "__main__":
    unittest.main()
