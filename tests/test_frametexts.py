import random
import unittest

from leftproducts.errors import BadFrame, BadText
from leftproducts.frames import Frame
from leftproducts.frametexts import frame_of_text, frame_text
from leftproducts.makers import faces_frame, turning_frame
from leftproducts.many import Many
from tests.helpers import JUNK, letters_frame, mixed_frame, refused, small_frames, untouched
from tests.lives import live_frames

EDGE = ["frame 3 0 0 1", "0 0 = 0:1", "0 2 = 2:1", "1 1 = 1:1", "2 1 = 2:1", "0 > 2:2", "1 > 2:1"]
# Words that are no numbers as they are written, wherever a number stands.
NO_NUMBERS = ("", "00", "01", "+1", "-0", "1.0", "1 ", " 1", "a", "0x1", "1_0", "\u0661", "\u00b2", "--1", "-", "1e0",
              "100", "9" * 5000, "1\t", "\uff11", "1-")


def text_of(frame):
    """frame_text, line by line."""
    lines = [["frame", frame.prime, *frame.heights]]
    for pair in sorted(frame.product):
        lines.append([*pair, "=", *(f"{k}:{frame.product[pair][k]}" for k in sorted(frame.product[pair]))])
    for place in sorted(frame.step):
        lines.append([place, ">", *(f"{k}:{frame.step[place][k]}" for k in sorted(frame.step[place]))])
    return "\n".join(" ".join(map(str, line)) for line in lines)


def all_frames():
    large = turning_frame(31, 5, [{}, {}, {(0, 1): 1}, {(1, 2): 7}, {}])
    return live_frames() + small_frames() + [large, Frame(31, [-8, 16] * 16, {}, {}), Frame(2, [], {}, {})]


class FrameTextTest(unittest.TestCase):
    def test_by_hand(self):
        self.assertEqual(frame_text(faces_frame(3, [(0,), (1,), (0, 1)])), "\n".join(EDGE))
        self.assertEqual(frame_text(frame=Frame(31, [], {}, {})), "frame 31")
        self.assertEqual(frame_text(Frame(5, [-8, 16, -7], {}, {0: {2: -1}})), "frame 5 -8 16 -7\n0 > 2:4")
        both = Frame(7, [0, 0, 0], {(0, 0): {0: 1}}, {})
        self.assertEqual(frame_text(both), "frame 7 0 0 0\n0 0 = 0:1")

    def test_of_all_frames(self):
        for frame in all_frames():
            text = untouched(self, frame_text, frame)
            self.assertEqual(text, text_of(frame))
            back = frame_of_text(text)
            self.assertEqual(back, frame)
            self.assertIs(type(back), Frame)
            self.assertEqual(frame_text(back), text)

    def test_ascending_by_numbers(self):
        # Place 10 stands behind place 9, as numbers do.
        frame = turning_frame(3, 4, [{}] * 4)
        lines = frame_text(frame).split("\n")[1:]
        pairs = [tuple(map(int, line.split(" ")[:2])) for line in lines]
        self.assertEqual(pairs, sorted(pairs))
        self.assertIn((0, 10), pairs)

    def test_errors(self):
        for junk in (None, 0, True, "frame 3", {}, (), Frame, Many(3, [1], 2, {})):
            refused(self, BadFrame, "part", None, frame_text, junk)


class FrameOfTextTest(unittest.TestCase):
    def bad(self, text, at):
        refused(self, BadText, "at", at, frame_of_text, text)

    def test_what_is_no_string(self):
        for junk in JUNK + (b"frame 3", ["frame 3"], ("frame 3",), letters_frame()):
            self.bad(junk, 0)
        self.assertEqual(frame_of_text(text="frame 3"), Frame(3, [], {}, {}))

    def test_the_first_line(self):
        for line in ("", " ", "frame", "frame ", "frame  3", " frame 3", "frame 3 ", "Frame 3", "frames 3", "frame\t3",
                     "frame 1", "frame 4", "frame 0", "frame -3", "frame 37", "frame 32", "frame 03", "frame three",
                     "frame 3 17", "frame 3 -9", "frame 3 0  1", "frame 3 0 1 ", "frame 3,0", "frame 3" + " 0" * 33,
                     "3 0 1", "frame 3 0 = 1", "0 0 = 0:1", "frame 3\r", "live frame 3"):
            self.bad(line, 0)
            self.bad(line + "\n0 0 = 0:1", 0)
        for word in NO_NUMBERS:
            self.bad(f"frame {word}", 0)
            self.bad(f"frame 3 0 {word}", 0)
            self.bad(f"frame 3 {word} 0", 0)
        self.assertEqual(len(frame_of_text("frame 3" + " 0" * 32).heights), 32)
        for prime in (2, 3, 5, 7, 11, 13, 17, 19, 23, 29, 31):
            self.assertEqual(frame_of_text(f"frame {prime} -8 16"), Frame(prime, [-8, 16], {}, {}))

    def test_each_line_wrong_in_turn(self):
        wrong = ["", " ", "-", "0", "0 0", "0 0 =", "0 0 = ", "0 0 = -", "0 0 0:1", "0 0 > 0:1", "0 = 0:1",
                 "0 0 0 = 0:1", " 0 0 = 0:1", "0 0 = 0:1 ", "0  0 = 0:1", "0 0 =  0:1", "0 0 = 0:1  1:1", "0 0 =0:1",
                 "0 0= 0:1", "0 0 = 0:0", "0 0 = 0:31", "0 0 = 0:-1", "0 0 = 32:1", "0 0 = -1:1", "32 0 = 0:1",
                 "0 32 = 0:1", "-1 0 = 0:1", "0 -1 = 0:1", "0 0 = 0:1:1", "0 0 = 0", "0 0 = 0:", "0 0 = :1", "0 0 = :",
                 "0 0 = 1:1 0:1", "0 0 = 0:1 0:1", "0 0 = 0:1 - 1:1", "0 0 = 0:1,1:1", "0 0 = 0 :1", "0 0 == 0:1",
                 "0 >", "0 > ", "0 > -", "> 2:1", "0 0 > 2:1", "0 > 2:1 ", " 0 > 2:1", "0  > 2:1", "0 >  2:1", "0 >2:1",
                 "32 > 2:1", "-1 > 2:1", "0 > 2:0", "0 > 2:31", "0 > 32:1", "0 < 2:1", "0 > 2:1 1:1", "0 = 2:1",
                 "frame 3 0 0 1", "a 0 = 0:1", "0 a = 0:1", "0 > = 0:1", "0 0 = 0:1\t", "0\t0 = 0:1", "0 0 = 0:1\r",
                 "0 0 = 0;1"]
        for number in NO_NUMBERS:
            wrong += [f"{number} 0 = 0:1", f"0 {number} = 0:1", f"0 0 = {number}:1", f"0 0 = 0:{number}",
                      f"{number} > 2:1", f"0 > {number}:1", f"0 > 2:{number}", f"0 0 = 0:1 {number}:1"]
        for at in range(1, len(EDGE)):
            for line in wrong:
                self.bad("\n".join(EDGE[:at] + [line] + EDGE[at + 1:]), at)
        for line in wrong:
            self.bad("\n".join(EDGE + [line]), len(EDGE))
            # The first one counts.
            self.bad("\n".join([EDGE[0], line, "x"]), 1)
        self.bad("\n".join(EDGE) + "\n", len(EDGE))
        self.bad("\n" + "\n".join(EDGE), 0)
        self.bad("\n".join(EDGE[:2] + [""] + EDGE[2:]), 2)

    def test_lines_of_right_form_that_make_no_frame(self):
        count = len(EDGE)
        # Out of sequence; twice; lacking, so that a rule is broken; beyond the places; numbers beyond the prime.
        rnd = random.Random(1)
        for _ in range(20):
            order = EDGE[1:]
            rnd.shuffle(order)
            if order != EDGE[1:]:
                self.bad("\n".join(EDGE[:1] + order), count)
        for k in range(1, count):
            self.bad("\n".join(EDGE[:k] + EDGE[k:k + 1] + EDGE[k:]), count + 1)
            self.bad("\n".join(EDGE[:k] + EDGE[k:] + EDGE[k:k + 1]), count + 1)
            self.bad("\n".join(EDGE[:k] + EDGE[k + 1:]), count - 1)
        self.bad("\n".join(EDGE[:5] + EDGE[6:] + EDGE[5:6]), count)
        self.bad("\n".join(EDGE[:5] + ["0 > 2:5"] + EDGE[6:]), count)
        self.bad("\n".join(EDGE[:1] + ["0 0 = 0:4"] + EDGE[2:]), count)
        self.bad("frame 3 0 0\n0 0 = 0:1 1:3", 2)
        self.bad("frame 3 0\n0 0 = 0:3", 2)
        self.bad("frame 3 0\n0 0 = 1:1", 2)
        self.bad("frame 3 0\n0 1 = 0:1", 2)
        self.bad("frame 3 0\n31 > 30:1", 2)
        self.bad("frame 3\n0 0 = 0:1", 2)
        # Heights, brackets, steps that are not nothing twice.
        self.bad("frame 3 0 1\n0 0 = 1:1", 2)
        self.bad("frame 3 0 1\n1 > 0:1", 2)
        self.bad("frame 3 0 0\n0 0 = 1:1\n0 1 = 0:1", 3)
        self.bad("frame 3 0 1 2\n0 > 1:1\n1 > 2:1", 3)
        self.bad("frame 3 0 1\n0 0 = 0:1\n0 > 1:1", 3)
        self.assertEqual(frame_of_text("frame 5 0 0\n0 0 = 0:4"), Frame(5, [0, 0], {(0, 0): {0: -1}}, {}))

    def test_texts_changed_by_one_sign(self):
        rnd = random.Random(2)
        for frame in (letters_frame(), mixed_frame(letters_frame(), 1), faces_frame(5, [(0,), (1,), (0, 1)])):
            text = frame_text(frame)
            lines = len(text.split("\n"))
            for _ in range(300):
                k = rnd.randrange(len(text))
                other = text[:k] + rnd.choice("0123456789 :=>-\n") + text[k + rnd.randrange(2):]
                try:
                    back = frame_of_text(other)
                except BadText as error:
                    self.assertTrue(0 <= error.at <= lines + 1)
                else:
                    self.assertEqual(frame_text(back), other)


if __name__ == "__main__":
    unittest.main()
