import random
import unittest

from leftproducts.deedtexts import deed_of_text, deed_text
from leftproducts.errors import BadLive, BadText, LeftError
from leftproducts.frames import Frame
from leftproducts.frametexts import frame_text
from leftproducts.journals import journal_text, led_live
from leftproducts.live import LiveFrame
from tests.helpers import JUNK, letters_frame, refused
from tests.lives import live_frames, random_deed

POINT = "live frame 3 0 / 0 0 = 0:1"


def live_after(frame, *deeds):
    live = LiveFrame(frame)
    for deed in deeds:
        live.do(deed)
    return live


class JournalTest(unittest.TestCase):
    def bad(self, text, at):
        refused(self, BadText, "at", at, led_live, text)

    def test_by_hand(self):
        point = Frame(3, [0], {(0, 0): {0: 1}}, {})
        self.assertEqual(journal_text(live=LiveFrame(point)), POINT)
        live = live_after(point, ("beside", Frame(3, [0, 1], {}, {0: {1: 1}})), ("rename", [1, 0]), ("scale", 0, -1),
                          ("turn",), ("part", [0]))
        text = POINT + "\nbeside frame 3 0 1 / 0 > 1:1\nrename 1 0\nscale 0 -1\nturn\npart 0"
        self.assertEqual(journal_text(live), text)
        again = led_live(text=text)
        self.assertEqual((again.begun, again.frame, again.standing), (point, live.frame, 5))
        # Deeds taken back are not told.
        live.undo()
        live.undo()
        self.assertEqual(journal_text(live), POINT + "\nbeside frame 3 0 1 / 0 > 1:1\nrename 1 0\nscale 0 -1")
        live.redo()
        self.assertEqual(journal_text(live).split("\n")[4:], ["turn"])

    def test_texts_lead_back(self):
        rnd = random.Random(3)
        for frame in live_frames() * 2:
            live = LiveFrame(frame)
            for _ in range(rnd.randrange(8)):
                live.do(random_deed(rnd, live.frame))
            if rnd.random() < 0.3 and live.standing:
                live.undo()
            text = journal_text(live)
            lines = ["live " + frame_text(frame).replace("\n", " / ")] + [deed_text(deed) for deed in live.deeds()]
            self.assertEqual(text, "\n".join(lines))
            back = led_live(text)
            self.assertIsInstance(back, LiveFrame)
            self.assertEqual((back.begun, back.frame, back.standing), (live.begun, live.frame, live.standing))
            self.assertEqual((back.deeds(), back.told(), back.watched()), (live.deeds(), live.told(), {}))
            self.assertEqual(journal_text(back), text)

    def test_what_is_watched_is_not_told(self):
        live = live_after(letters_frame(), ("turn",))
        text = journal_text(live)
        live.watch("a", {1: 1})
        self.assertEqual(journal_text(live), text)

    def test_no_live_frames(self):
        for junk in JUNK + (letters_frame(), POINT, LiveFrame):
            refused(self, BadLive, None, None, journal_text, junk)

    def test_the_first_line(self):
        for junk in JUNK + (b"live frame 3", [POINT], letters_frame(), LiveFrame(letters_frame())):
            self.bad(junk, 0)
        for line in ("", "live", "live ", "frame 3", "live  frame 3", " live frame 3", "live frame 3 ", "live frame 4",
                     "Live frame 3", "live frame 3 0 / 0 0 = 0:3", "live frame 3 0 / 0 0 = 1:1",
                     "live frame 3 0 /0 0 = 0:1", "turn", "live frame 3 0 / ", "lives frame 3",
                     "live frame 3 0 / 0 0 = 0:1 / 0 0 = 0:1", "\n" + POINT):
            self.bad(line, 0)
            self.bad(line + "\nturn", 0)
            self.bad(line + "\nx", 0)
        # The frame stands in one line.
        self.bad("live frame 3 0\n0 0 = 0:1", 1)
        self.assertEqual(led_live("live frame 3").begun, Frame(3, [], {}, {}))

    def test_lines_that_are_wrong_or_cannot_be_done(self):
        good = ["turn", "mix 1 2 1", "scale 3 2", "beside frame 3 0 / 0 0 = 0:1", "rename 7 6 5 4 3 2 1 0"]
        begun = "live " + frame_text(letters_frame()).replace("\n", " / ")
        self.assertEqual(led_live("\n".join([begun] + good)).standing, 5)
        wrong = ("", " ", "x", "turn ", "undo", "mix 1 2", "mix 1 2 +1", "rename  0", "beside frame 3 0 / 0 0 = 0:3",
                 "left", "watch a 0:1")
        undoable = ("mix 0 1 1", "mix 1 8 1", "scale 0 3", "scale 8 1", "rename 0", "part 3", "beside frame 5 0",
                    "beside frame 3 0 0 0 0 0", "beside frame 3 16", "part 7 6")
        for at in range(1, 7):
            for line in wrong + undoable:
                lines = good[:at - 1] + [line] + good[at - 1:]
                first = self.first_bad(lines)
                if first is None:
                    self.assertEqual(led_live("\n".join([begun] + lines)).standing, 6)
                    continue
                self.assertTrue(line in undoable or first == at)
                self.bad("\n".join([begun] + lines), first)
                # With both, the first one counts.
                for other in ("x", "scale 0 3"):
                    self.bad("\n".join([begun] + lines + [other]), first)
                    self.bad("\n".join([begun, other] + lines), 1)
        self.bad("\n".join([begun] + good) + "\n", 6)

    def first_bad(self, lines):
        """The index of the first of these lines that is wrong or cannot be done; None if all can."""
        live = LiveFrame(letters_frame())
        for at, line in enumerate(lines):
            try:
                live.do(deed_of_text(line))
            except LeftError:
                return at + 1
        return None

    def test_where_it_stands(self):
        # The deed could be done to the frame that was begun, or behind the next one.
        text = "live frame 3 0 1\npart 1\nscale 1 2"
        self.bad(text, 2)
        self.assertEqual(led_live("live frame 3 0 1\nscale 1 2\npart 1").standing, 2)
        self.bad("live frame 3 0\nmix 0 1 1\nbeside frame 3 0 0", 1)
        self.assertEqual(led_live("live frame 3 0\nbeside frame 3 0 0\nmix 0 1 1").standing, 2)


if __name__ == "__main__":
    unittest.main()
