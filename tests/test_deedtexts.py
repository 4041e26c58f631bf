import random
import unittest

from leftproducts.deedtexts import deed_of_text, deed_text
from leftproducts.errors import BadDeed, BadText
from leftproducts.frames import Frame
from leftproducts.frametexts import frame_text
from leftproducts.makers import faces_frame
from tests.helpers import JUNK, letters_frame, refused, untouched
from tests.lives import live_frames, random_deed, tidied_deed
from tests.test_frametexts import NO_NUMBERS
from tests.test_live import DEEDS, NO_DEEDS

EDGE = faces_frame(3, [(0,), (1,), (0, 1)])
PAIRS = ((("turn",), "turn"), (("rename", (1, 0)), "rename 1 0"), (("rename", ()), "rename"), (("part", ()), "part"),
         (("part", (0, 2)), "part 0 2"), (("mix", 0, 1, -3), "mix 0 1 -3"), (("mix", 31, 0, 99), "mix 31 0 99"),
         (("mix", 0, 0, 0), "mix 0 0 0"), (("scale", 0, 2), "scale 0 2"), (("scale", 31, -99), "scale 31 -99"),
         (("beside", Frame(3, [], {}, {})), "beside frame 3"), (("rename", (31, 31, 0)), "rename 31 31 0"),
         (("beside", Frame(5, [-1, 0], {}, {0: {1: 2}})), "beside frame 5 -1 0 / 0 > 1:2"),
         (("beside", EDGE), "beside frame 3 0 0 1 / 0 0 = 0:1 / 0 2 = 2:1 / 1 1 = 1:1 / 2 1 = 2:1 / 0 > 2:2 / 1 > 2:1"))


class DeedTextTest(unittest.TestCase):
    def test_by_hand(self):
        for deed, text in PAIRS:
            self.assertEqual(untouched(self, deed_text, deed), text)
            self.assertEqual(deed_of_text(text), deed)
            self.assertIs(type(deed_of_text(text)), tuple)
        self.assertEqual(deed_text(deed=("rename", [1, 0])), "rename 1 0")
        self.assertEqual(deed_of_text(text="part 5 5 1"), ("part", (5, 5, 1)))
        self.assertIs(type(deed_of_text("part 5 5 1")[1]), tuple)

    def test_texts_lead_back(self):
        rnd = random.Random(1)
        deeds = list(DEEDS)
        for frame in live_frames() * 5:
            deeds += [random_deed(rnd, frame), ("beside", frame)]
        for deed in deeds:
            text = deed_text(deed)
            self.assertNotIn("\n", text)
            self.assertEqual(deed_of_text(text), tidied_deed(deed))
            self.assertEqual(deed_text(deed_of_text(text)), text)
        self.assertEqual(deed_text(("beside", letters_frame())), "beside " + frame_text(letters_frame()).replace("\n",
                                                                                                                 " / "))

    def test_no_deeds(self):
        for junk in NO_DEEDS:
            refused(self, BadDeed, None, None, deed_text, junk)

    def test_no_texts(self):
        for junk in JUNK + (b"turn", ["turn"], ("turn",), letters_frame()):
            refused(self, BadText, "at", 0, deed_of_text, junk)
        for text in ("", " ", "turn ", " turn", "turn 0", "Turn", "turned", "turn\n", "\nturn", "turn\nturn", "rename ",
                     "rename  1", "rename 1 ", "rename 1  0", "rename 32", "rename -1", "rename 1,0", "rename [1, 0]",
                     "renamed", "part ", "part 32", "part 0 -1", "parts 0", "mix", "mix 0", "mix 0 1", "mix 0 1 2 3",
                     "mix 0 1 100", "mix 0 1 -100", "mix 32 0 1", "mix 0 32 1", "mix -1 0 1", "mix 0 -1 1",
                     "mix 0  1 1", "mix 0 1 1 ", "scale", "scale 0", "scale 0 1 1", "scale 32 1", "scale -1 1",
                     "scale 0 100", "scale 0 -100", "scale 0 1\n", "beside", "beside ", "beside 3", "beside frame",
                     "beside frame 4", "beside  frame 3", "beside frame 3 ", "beside frame 3\n",
                     "beside frame 3 0 /0 0 = 0:1", "beside frame 3 0\n0 0 = 0:1", "beside frame 3 0 / ",
                     "beside frame 3 0 /  0 0 = 0:1", "beside frame 3 0 / 0 0 = 0:3", "beside frame 3 0 / 0 0 = -",
                     "beside frame 3 0 1 / 0 0 = 1:1", "beside frame 3 0 / 0 0 = 0:1 / 0 0 = 0:1", "frame 3", "undo",
                     "redo", "beside frame 3 0 / / 0 0 = 0:1", "1 0", "0", "left", "besides frame 3", "mix 0 1 +3",
                     "mix 0 1 - 3"):
            refused(self, BadText, "at", 0, deed_of_text, text)
        for number in NO_NUMBERS:
            for text in (f"rename {number}", f"part 0 {number}", f"mix {number} 0 1", f"mix 0 {number} 1",
                         f"mix 0 1 {number}", f"scale {number} 1", f"scale 0 {number}", f"beside frame {number}",
                         f"beside frame 3 {number}", f"turn {number}"):
                refused(self, BadText, "at", 0, deed_of_text, text)


if __name__ == "__main__":
    unittest.main()
