import random
import unittest
from itertools import product

from leftproducts.deedtexts import deed_text
from leftproducts.desk import Desk
from leftproducts.errors import BadFrame, LeftError
from leftproducts.frames import Frame
from leftproducts.frametexts import frame_text
from leftproducts.journals import journal_text
from leftproducts.live import LiveFrame
from leftproducts.makers import faces_frame, turning_frame
from leftproducts.many import Many
from tests.helpers import JUNK, letters_frame, refused
from tests.lives import live_frames, random_deed
from tests.test_frametexts import NO_NUMBERS
from tests.test_live import state

EDGE = faces_frame(3, [(0,), (1,), (0, 1)])
LINES = ("turn", "rename 0 1 2", "part 2", "mix 0 1 1", "scale 0 2", "beside frame 3 0 / 0 0 = 0:1", "undo", "redo",
         "prime", "places", "heights", "left", "one", "turns", "frame", "journal", "watch a 0:1", "watch a -", "drop a",
         "row a", "three a a a")


def row_as_text(row):
    return " ".join(f"{place}:{row[place]}" for place in sorted(row)) if row else "-"


class DeskTest(unittest.TestCase):
    def says(self, desk, *pairs):
        for line, answer in pairs:
            self.assertEqual(desk.say(line), answer, line)

    def test_by_hand(self):
        desk = Desk(EDGE)
        frame = "\n".join(["frame 3 0 0 1", "0 0 = 0:1", "0 1 = 1:1", "0 2 = 2:1", "1 0 = 1:1", "1 1 = 1:1",
                           "2 0 = 2:1", "2 1 = 2:1", "1 > 2:1"])
        self.says(desk, ("left", "0:1"), ("watch a 2:1", "done"), ("row a", "2:1 left made"), ("mix 0 1 1", "done"),
                  ("frame", frame))

    def test_the_live_frame(self):
        desk = Desk(frame=EDGE)
        self.assertIsInstance(desk.live, LiveFrame)
        self.assertEqual((desk.live.begun, desk.live.standing), (EDGE, 0))
        for junk in (None, 0, True, "x", {}, (), Frame, Many(3, [1], 2, {}), LiveFrame(EDGE)):
            refused(self, BadFrame, "part", None, Desk, junk)

    def test_deeds(self):
        desk = Desk(EDGE)
        self.says(desk, ("undo", "refused"), ("redo", "refused"), ("turn", "done"), ("redo", "refused"), ("undo",
                                                                                                          "done"),
                  ("redo", "done"), ("redo", "refused"), ("rename 1 0 2", "done"), ("rename 1 0", "refused"),
                  ("rename", "refused"), ("mix 0 2 1", "refused"), ("mix 0 1 -3", "done"), ("mix 31 0 1", "refused"),
                  ("scale 0 3", "refused"), ("scale 0 -98", "done"), ("scale 3 1", "refused"), ("part 0", "refused"),
                  ("beside frame 3 0 / 0 0 = 0:1", "done"), ("beside frame 5 0", "refused"),
                  ("beside frame 3 0 0 0 0 0 0 0 0 0 0 0", "refused"), ("part 2", "done"), ("part", "done"), ("rename",
                                                                                                              "done"),
                  ("heights", "-"), ("undo", "done"), ("undo", "done"), ("heights", "1"))
        self.assertEqual([deed[0] for deed in desk.live.deeds()],
                         ["turn", "rename", "mix", "scale", "beside", "part"])

    def test_what_is_told(self):
        self.says(Desk(EDGE), ("prime", "3"), ("places", "3"), ("heights", "0 0 1"), ("left", "0:1"),
                  ("one", "0:1 1:1"), ("turns", "no"), ("frame", frame_text(EDGE)),
                  ("journal", "live frame 3 0 0 1 / 0 0 = 0:1 / 0 2 = 2:1 / 1 1 = 1:1 / 2 1 = 2:1 / 0 > 2:2 / 1 > 2:1"))
        self.says(Desk(letters_frame()), ("left", "0:1 1:2 2:2 3:1"), ("one", "0:1"), ("turns", "yes"), ("places", "8"))
        self.says(Desk(Frame(31, [], {}, {})), ("prime", "31"), ("places", "0"), ("heights", "-"), ("left", "-"),
                  ("one", "-"), ("turns", "yes"), ("frame", "frame 31"), ("journal", "live frame 31"))
        self.says(Desk(Frame(5, [-2, 16, -2], {}, {})), ("heights", "-2 16 -2"), ("left", "-2:2 16:1"), ("one", "none"))
        self.says(Desk(Frame(5, [0, 1], {}, {0: {1: 1}})), ("left", "-"), ("one", "none"))

    def test_rows(self):
        desk = Desk(letters_frame())
        self.says(desk, ("row a", "refused"), ("drop a", "refused"), ("watch a 0:1 4:2", "done"),
                  ("row a", "0:1 4:2 left"), ("watch a 3:1", "done"), ("row a", "3:1"), ("watch xyz -", "done"),
                  ("row xyz", "- left made"), ("watch b 4:4 5:3", "done"), ("row b", "4:1 left made"),
                  ("watch c 0:30 7:30", "done"), ("row c", "- left made"), ("watch d 8:1", "refused"),
                  ("watch d 31:30", "refused"), ("row d", "refused"), ("drop d", "refused"), ("watch a 8:1", "refused"),
                  ("row a", "3:1"), ("drop a", "done"), ("row a", "refused"), ("drop a", "refused"),
                  ("watch abcdefgh 1:1", "done"), ("row abcdefgh", "1:1 left"), ("drop abcdefgh", "done"))
        self.assertEqual(list(desk.live.watched()), ["b", "c", "xyz"])
        self.says(desk, ("part 4 5 6 7", "done"), ("row b", "0:1 left"), ("undo", "done"), ("row b", "4:1 left made"))

    def test_threes(self):
        desk = Desk(letters_frame())
        self.says(desk, ("watch x 1:1", "done"), ("watch y 2:1", "done"), ("watch z 3:1", "done"),
                  ("watch o -", "done"), ("three x x y", "no"), ("three x x x", "yes"), ("three o o o", "yes"),
                  ("three x y z", "none"), ("three x y w", "refused"), ("three w y x", "refused"),
                  ("three z z w", "refused"), ("drop z", "done"), ("three x x z", "refused"))

    def test_threes_of_all_names(self):
        desk = Desk(letters_frame())
        for line in ("watch x 1:1", "watch y 2:1", "watch z 3:1", "watch o -", "watch u 6:1", "watch i 0:1"):
            self.assertEqual(desk.say(line), "done")
        words = {True: "yes", False: "no", None: "none"}
        told = {}
        for names in product("xyzoui", repeat=3):
            told[names] = desk.say("three " + " ".join(names))
            self.assertEqual(told[names], words[desk.live.three(*names)])
        self.assertEqual(set(told.values()), {"yes", "no", "none"})
        # The sequence of the names matters.
        for order in ((0, 0, 2), (0, 2, 2), (0, 0, 1), (1, 1, 2), (0, 2, 1), (1, 0, 2)):
            self.assertTrue(any(told[names] != told[tuple(names[k] for k in order)] for names in told))

    def test_all_else(self):
        desk = Desk(letters_frame())
        self.says(desk, ("watch a 1:1", "done"))
        seen = state(desk.live)
        for junk in JUNK + (b"turn", ["turn"], ("turn",), EDGE):
            self.assertEqual(desk.say(junk), "?")
        for line in ("", " ", "?", "done", "Turn", "turn 0", "told", "deeds", "standing", "undo 1", "redo now",
                     "prime?", "PRIME", "frame 3", "live frame 3", "mix 0 1", "mix 1 2 100", "scale 0", "rename 32",
                     "part -1", "beside frame 4", "beside", "watch", "watch a", "watch -", "watch a b", "watch A 0:1",
                     "watch abcdefghi 0:1", "watch a1 0:1", "watch a 0:0", "watch a 0:31", "watch a 0:-1",
                     "watch a 32:1", "watch a 1:1 0:1", "watch a 0:1 0:1", "watch a - 0:1", "watch a 0:1 -",
                     "watch a --", "watch a 0", "watch a 0:1:1", "watch a {0: 1}", "watch 0:1", "unwatch a", "drop",
                     "drop A", "drop a a", "drop abcdefghi", "drop a1", "row", "row A", "row a a", "row a1",
                     "row abcdefghi", "three", "three a", "three a a", "three a a A", "three a a a a", "three a a a1",
                     "three 1 2 3", "watched", "rows", "journal 1", "ones", "left 0", "turn\nturn", "prime\n",
                     "\nprime"):
            self.assertEqual(desk.say(line), "?", line)
        for number in NO_NUMBERS:
            for line in (f"watch a {number}:1", f"watch a 0:{number}", f"watch a 0:1 {number}:1", f"mix 1 2 {number}"):
                self.assertEqual(desk.say(line), "?", line)
        self.assertEqual(state(desk.live), seen)

    def test_blanks_more(self):
        desk = Desk(EDGE)
        desk.say("watch a 2:1")
        seen = state(desk.live)
        for line in LINES:
            spots = [k for k, sign in enumerate(line) if sign == " "]
            others = [line + " ", " " + line, line + "\n", "\t" + line] + [line[:k] + " " + line[k:] for k in spots]
            for other in others:
                self.assertEqual(desk.say(other), "?", other)
        self.assertEqual(state(desk.live), seen)

    def test_what_is_refused_changes_nothing(self):
        desk = Desk(letters_frame())
        for line in ("turn", "watch a 1:1", "watch b 7:2", "turn", "undo"):
            desk.say(line)
        seen = state(desk.live)
        for line in ("mix 0 1 1", "scale 0 3", "rename 0", "part 3", "beside frame 5 0", "watch a 8:1", "watch c 31:1",
                     "drop c", "row c", "three a b c", "beside frame 3 16"):
            self.assertEqual(desk.say(line), "refused", line)
            self.assertEqual(state(desk.live), seen)
        self.says(desk, ("redo", "done"), ("redo", "refused"), ("undo", "done"), ("undo", "done"), ("undo", "refused"))

    def test_a_live_frame_that_was_changed_otherwise(self):
        desk = Desk(EDGE)
        desk.live.do(("mix", 0, 1, 1))
        desk.live.watch("k", {2: 2})
        self.says(desk, ("row k", "2:2 left made"), ("one", "0:1"), ("frame", frame_text(desk.live.frame)))
        desk.live.undo()
        self.says(desk, ("row k", "refused"), ("frame", frame_text(EDGE)), ("redo", "done"), ("one", "0:1"))
        self.assertEqual(desk.live.standing, 1)
        desk.live.do(("beside", turning_frame(3, 1, [{}])))
        self.says(desk, ("places", "6"), ("left", "0:1 1:1"), ("journal", journal_text(desk.live)))

    def test_as_the_live_frame_does(self):
        rnd = random.Random(5)
        for frame in live_frames():
            desk, live = Desk(frame), LiveFrame(frame)
            for _ in range(14):
                self.one_line(rnd, desk, live)
            self.assertEqual(state(desk.live), state(live))
            told = live.told()
            self.says(desk, ("frame", frame_text(live.frame)), ("journal", journal_text(live)),
                      ("prime", str(told["prime"])), ("places", str(told["places"])),
                      ("turns", "yes" if told["turns"] else "no"),
                      ("one", "none" if told["one"] is None else row_as_text(told["one"])),
                      ("left", row_as_text(dict(told["left"]))),
                      ("heights", " ".join(map(str, told["heights"])) or "-"))
            for name in ("a", "b", "c"):
                if name in live.watched():
                    row, left, made = live.watched()[name]
                    self.says(desk, (f"row {name}", row_as_text(row) + " left" * left + " made" * made))

    def one_line(self, rnd, desk, live):
        """Says a line by chance, and does the same to the live frame."""
        kind = rnd.randrange(5)
        name = rnd.choice("abc")
        row = {place: rnd.randrange(1, 31) for place in range(len(live.frame.heights) + 1) if rnd.random() < 0.3}
        deed = random_deed(rnd, live.frame)
        if kind > 2 and rnd.random() < 0.3:
            deed = ("scale", rnd.randrange(32), rnd.randrange(-99, 100))
        line, act = [("undo", live.undo), ("redo", live.redo),
                     (f"watch {name} {row_as_text(row)}", lambda: live.watch(name, row)),
                     (deed_text(deed), lambda: live.do(deed)), (deed_text(deed), lambda: live.do(deed))][kind]
        try:
            act()
            answer = "done"
        except LeftError:
            answer = "refused"
        self.assertEqual(desk.say(line), answer)

    def test_parameters_by_name(self):
        self.assertEqual(Desk(frame=EDGE).say(line="prime"), "3")


if __name__ == "__main__":
    unittest.main()
