import copy
import random
import unittest

from leftproducts.errors import BadDeed, BadFrame, BadNumber, BadTable, NothingLeft, TooMany
from leftproducts.frames import Frame
from leftproducts.leftovers import left_sizes
from leftproducts.live import LiveFrame, is_deed
from leftproducts.makers import faces_frame, turning_frame
from leftproducts.many import Many
from leftproducts.rows import one_row
from leftproducts.sides import turned
from tests.helpers import JUNK, circle_frame, is_ascending, letters_frame, refused
from tests.lives import frame_after, live_frames, mates, random_deed, tidied_deed

POINT = Frame(3, [0], {(0, 0): {0: 1}}, {})
DEEDS = (("turn",), ("rename", []), ("rename", ()), ("rename", [1, 0]), ("rename", (31, 31, 0)), ("part", []),
         ("part", (0, 2)), ("part", [5, 5, 1]), ("mix", 0, 1, 5), ("mix", 31, 31, -99), ("mix", 0, 0, 0),
         ("scale", 0, 99), ("scale", 31, 0), ("scale", 3, -99), ("beside", POINT), ("rename", [0] * 40))


class Same:
    """Equal to any value."""

    def __eq__(self, other):
        return True


NO_DEEDS = JUNK + (
    (Same(),), (Same(), [0]), (Same(), 0, 1), (Same(), 0, 1, 2), (Same(), POINT), ("besides", POINT), ("turn", POINT),
    ("rename", POINT), ("", POINT), ("beside", [POINT]), ("beside", "frame 3"),
    ["turn"], "turn", ("turn", 0), ("turn", ()), ("turned",), ("",), (b"turn",), (("turn",),), ("Turn",),
    ("rename",), ("rename", 0), ("rename", 0, 1), ("rename", None), ("rename", "01"), ("rename", {0: 1}),
    ("rename", [32]), ("rename", [-1]), ("rename", [True]), ("rename", [0.0]), ("rename", ["0"]), ("rename", [[0]]),
    ("rename", [0], [1]),
    ("part",), ("part", 0), ("part", [32]), ("part", (0, False)), ("part", (), ()), ("part", {}),
    ("mix",), ("mix", 0, 1), ("mix", 0, 1, 2, 3), ("mix", 0, 1, 100), ("mix", 0, 1, -100), ("mix", 32, 1, 1),
    ("mix", 0, 32, 1), ("mix", -1, 0, 1), ("mix", True, 0, 1), ("mix", 0, True, 1), ("mix", 0, 1, True),
    ("mix", (0, 1, 2)),
    ("mix", 0, 1, None), ("mix", 0, 1, 1.0), ("mix", "0", 1, 1), ["mix", 0, 1, 1],
    ("scale",), ("scale", 0), ("scale", 0, 1, 1), ("scale", 32, 1), ("scale", -1, 1), ("scale", 0, 100),
    ("scale", 0, -100),
    ("scale", False, 1), ("scale", 0, True), ("scale", 0, "1"), ("beside",), ("beside", None), ("beside", Frame),
    ("beside", POINT, POINT), ("beside", Many(3, [1], 2, {})), ["beside", POINT], (POINT,), ("undo",), ("redo",))


def state(live):
    """All that can be seen of a live frame, but for the deeds taken back."""
    return (live.begun, live.frame, live.standing, live.deeds(), live.told(), live.watched())


def told_of(frame):
    left = left_sizes(frame)
    return {"heights": frame.heights, "left": tuple((height, left[height]) for height in sorted(left)),
            "one": one_row(frame), "places": len(frame.heights), "prime": frame.prime, "turns": turned(frame) == frame}


class IsDeedTest(unittest.TestCase):
    def test_any_value(self):
        for deed in DEEDS:
            self.assertIs(is_deed(deed), True, deed)
        for junk in NO_DEEDS:
            self.assertIs(is_deed(junk), False, junk)
        self.assertIs(is_deed(thing=("turn",)), True)


class DoTest(unittest.TestCase):
    def test_begun(self):
        for frame in live_frames():
            live = LiveFrame(frame)
            self.assertEqual((live.begun, live.frame, live.standing), (frame, frame, 0))
            self.assertEqual((live.deeds(), live.watched()), ([], {}))
        self.assertEqual(LiveFrame(frame=letters_frame()).begun, letters_frame())
        for junk in (None, 0, True, "x", {}, (), Frame, Many(3, [1], 2, {}), LiveFrame(POINT)):
            refused(self, BadFrame, "part", None, LiveFrame, junk)

    def test_by_hand(self):
        edge = faces_frame(3, [(0,), (1,), (0, 1)])
        live = LiveFrame(edge)
        self.assertIsNone(live.do(("mix", 0, 1, 1)))
        # Place 0 is the one now.
        product = {(0, 0): {0: 1}, (0, 1): {1: 1}, (1, 0): {1: 1}, (1, 1): {1: 1}, (0, 2): {2: 1}, (2, 0): {2: 1},
                   (2, 1): {2: 1}}
        self.assertEqual(live.frame, Frame(3, [0, 0, 1], product, {1: {2: 1}}))
        live.do(("scale", 2, 2))
        self.assertEqual(live.frame.step, {1: {2: 2}})
        live.do(deed=("rename", [2, 0, 1]))
        self.assertEqual(live.frame.heights, (1, 0, 0))
        self.assertEqual(live.frame.step, {2: {0: 2}})
        live.do(("turn",))
        self.assertEqual(live.frame.product[2, 0], {0: 1})
        live.do(("part", [0]))
        self.assertEqual(live.frame, Frame(3, [1], {}, {}))
        live.do(("beside", turning_frame(3, 1, [{}])))
        self.assertEqual(live.frame, Frame(3, [1, 2], {}, {}))
        self.assertEqual(live.begun, edge)
        self.assertEqual(live.standing, 6)

    def test_each_kind(self):
        rnd = random.Random(1)
        kinds = {}
        for frame in live_frames() * 6:
            deed = random_deed(rnd, frame)
            kept = copy.deepcopy(deed)
            live = LiveFrame(frame)
            self.assertIsNone(live.do(deed))
            self.assertEqual(deed, kept)
            self.assertEqual(live.frame, frame_after(frame, deed))
            self.assertEqual((live.begun, live.standing, live.deeds()), (frame, 1, [tidied_deed(deed)]))
            kinds[deed[0]] = kinds.get(deed[0], 0) + 1
        self.assertEqual(len(kinds), 6)
        self.assertGreater(min(kinds.values()), 1)

    def test_mixing_back(self):
        for frame in (letters_frame(), circle_frame(5)):
            for number in (-99, -1, 0, 2, 4, 99):
                live = LiveFrame(frame)
                live.do(("mix", 1, 2, number))
                self.assertEqual(live.frame == frame, number % frame.prime == 0)
                live.do(("mix", 1, 2, -number))
                self.assertEqual(live.frame, frame)
        live = LiveFrame(letters_frame())
        live.do(("scale", 1, 2))
        self.assertNotEqual(live.frame, letters_frame())
        live.do(("scale", 1, -4))
        self.assertEqual(live.frame, letters_frame())

    def test_as_if_done_afresh(self):
        rnd = random.Random(2)
        for frame in live_frames() * 2:
            live = LiveFrame(frame)
            deeds, back = [], []
            for _ in range(12):
                moves = rnd.choice(("do", "do", "undo", "redo"))
                if moves == "do":
                    deed = random_deed(rnd, live.frame)
                    self.assertIsNone(live.do(deed))
                    deeds, back = deeds + [tidied_deed(deed)], []
                elif moves == "undo" and deeds:
                    self.assertIsNone(live.undo())
                    deeds, back = deeds[:-1], back + deeds[-1:]
                elif moves == "redo" and back:
                    self.assertIsNone(live.redo())
                    deeds, back = deeds + back[-1:], back[:-1]
            wanted = frame
            for deed in deeds:
                wanted = frame_after(wanted, deed)
            fresh = LiveFrame(frame)
            for deed in deeds:
                fresh.do(deed)
            self.assertEqual((live.frame, live.begun, live.standing), (wanted, frame, len(deeds)))
            self.assertEqual(live.deeds(), deeds)
            self.assertEqual(state(live), state(fresh))
            self.assertEqual(live.told(), told_of(wanted))

    def test_left_is_kept_and_multiplied(self):
        rnd = random.Random(3)
        for frame in live_frames():
            live = LiveFrame(frame)
            for _ in range(6):
                live.do(random_deed(rnd, live.frame, ("turn", "rename", "mix", "scale")))
                self.assertEqual(live.told()["left"], tuple(left_sizes(frame).items()))
            for other in mates(frame.prime) + [circle_frame(frame.prime)]:
                if len(frame.heights) * len(other.heights) <= 32:
                    live = LiveFrame(frame)
                    live.do(("beside", other))
                    wanted = {}
                    for i, one in left_sizes(frame).items():
                        for j, more in left_sizes(other).items():
                            wanted[i + j] = wanted.get(i + j, 0) + one * more
                    self.assertEqual(dict(live.told()["left"]), wanted)


class RefusedTest(unittest.TestCase):
    def refuses(self, frame, deed, error, attribute=None, value=None):
        """Looks that the deed is refused and nothing at all changed, what is taken back among it."""
        live = LiveFrame(frame)
        live.do(("turn",))
        live.watch("a", {0: 1} if frame.heights else {})
        live.do(("turn",))
        live.undo()
        seen = copy.deepcopy(state(live))
        refused(self, error, attribute, value, live.do, deed)
        self.assertEqual(state(live), seen)
        live.redo()
        self.assertEqual(live.deeds(), [("turn",), ("turn",)])
        self.assertEqual(live.standing, 2)
        refused(self, NothingLeft, None, None, live.redo)

    def test_no_deeds(self):
        for junk in NO_DEEDS:
            self.refuses(POINT, junk, BadDeed)

    def test_rename_and_part(self):
        letters = letters_frame()
        for order in ([], [0], [1, 0, 2], [0, 1, 2, 3, 4, 5, 6, 6], [0, 1, 2, 3, 4, 5, 6, 8], list(range(9)),
                      [31] * 40):
            self.refuses(letters, ("rename", order), BadTable)
        for places in ([3], (1, 2), (0, 1, 2, 3, 4, 5), [7, 6], [7, 7], (8,), (31,), (4, 5, 31)):
            self.refuses(letters, ("part", places), BadTable)
        live = LiveFrame(letters)
        live.do(("part", [4, 5, 6, 7]))
        self.assertEqual(live.frame.heights, (2, 2, 2, 3))

    def test_mix_and_scale(self):
        letters = letters_frame()
        for deed in (("mix", 0, 1, 1), ("mix", 1, 1, 1), ("mix", 1, 8, 1), ("mix", 8, 1, 1), ("mix", 31, 30, 0),
                     ("mix", 1, 4, 0), ("mix", 0, 0, 0), ("mix", 8, 8, 3)):
            self.refuses(letters, deed, BadTable)
        for deed in (("scale", 8, 1), ("scale", 31, 3), ("scale", 8, 0)):
            self.refuses(letters, deed, BadTable)
        for number in (0, 3, -3, 99, -99):
            self.refuses(letters, ("scale", 0, number), BadNumber, "part", "number")
        self.refuses(turning_frame(2, 2, [{}, {}]), ("scale", 0, 2), BadNumber, "part", "number")
        self.refuses(Frame(3, [], {}, {}), ("scale", 0, 1), BadTable)

    def test_beside(self):
        letters = letters_frame()
        self.refuses(letters, ("beside", turning_frame(5, 1, [{}])), BadFrame, "part", "prime")
        self.refuses(letters, ("beside", Frame(3, [14], {}, {})), BadFrame, "part", "heights")
        self.refuses(letters, ("beside", Frame(3, [16], {}, {})), BadFrame, "part", "heights")
        self.refuses(Frame(3, [-1], {}, {}), ("beside", Frame(3, [-8], {}, {})), BadFrame, "part", "heights")
        self.refuses(letters, ("beside", Frame(3, [0] * 5, {}, {})), TooMany, "most", 32)
        self.refuses(letters, ("beside", Frame(3, [0] * 4 + [16], {}, {})), BadFrame, "part", "heights")
        live = LiveFrame(letters)
        live.do(("beside", Frame(3, [0] * 4, {}, {})))
        self.assertEqual(live.told()["places"], 32)


class UndoTest(unittest.TestCase):
    def test_nothing_left(self):
        live = LiveFrame(letters_frame())
        for _ in range(2):
            refused(self, NothingLeft, None, None, live.undo)
            refused(self, NothingLeft, None, None, live.redo)
        live.do(("turn",))
        refused(self, NothingLeft, None, None, live.redo)
        live.undo()
        refused(self, NothingLeft, None, None, live.undo)
        live.redo()
        refused(self, NothingLeft, None, None, live.redo)
        self.assertEqual(live.standing, 1)

    def test_several_back_and_again(self):
        live = LiveFrame(letters_frame())
        deeds = [("mix", 1, 2, 1), ("scale", 3, 2), ("rename", (0, 2, 1, 3, 4, 5, 6, 7)), ("turn",),
                 ("part", (4, 5, 6, 7))]
        frames = [live.frame]
        for deed in deeds:
            live.do(deed)
            frames.append(live.frame)
        for standing in range(4, -1, -1):
            live.undo()
            self.assertEqual((live.standing, live.frame), (standing, frames[standing]))
            self.assertEqual(live.deeds(), deeds[:standing])
        for standing in range(1, 6):
            live.redo()
            self.assertEqual((live.standing, live.frame), (standing, frames[standing]))
            self.assertEqual(live.deeds(), deeds[:standing])

    def test_a_deed_behind_deeds_taken_back(self):
        live = LiveFrame(letters_frame())
        for number in (1, 2, 1):
            live.do(("mix", 1, 2, number))
        live.undo()
        live.undo()
        live.do(("scale", 1, 2))
        refused(self, NothingLeft, None, None, live.redo)
        self.assertEqual(live.deeds(), [("mix", 1, 2, 1), ("scale", 1, 2)])
        live.undo()
        live.redo()
        self.assertEqual(live.deeds(), [("mix", 1, 2, 1), ("scale", 1, 2)])
        live.undo()
        live.undo()
        self.assertEqual(live.frame, letters_frame())
        # A deed done again makes no end of the others that are taken back.
        live.redo()
        live.redo()
        self.assertEqual(live.standing, 2)


class ToldTest(unittest.TestCase):
    def test_by_hand(self):
        live = LiveFrame(faces_frame(3, [(0,), (1,), (0, 1)]))
        told = live.told()
        self.assertEqual(told, {"heights": (0, 0, 1), "left": ((0, 1),), "one": {0: 1, 1: 1}, "places": 3, "prime": 3,
                                "turns": False})
        self.assertEqual(list(told), ["heights", "left", "one", "places", "prime", "turns"])
        self.assertIs(LiveFrame(letters_frame()).told()["turns"], True)
        self.assertEqual(LiveFrame(Frame(5, [-2, 1], {}, {})).told(),
                         {"heights": (-2, 1), "left": ((-2, 1), (1, 1)), "one": None, "places": 2, "prime": 5,
                          "turns": True})
        self.assertEqual(LiveFrame(Frame(5, [], {}, {})).told(),
                         {"heights": (), "left": (), "one": {}, "places": 0, "prime": 5, "turns": True})

    def test_of_all_frames(self):
        for frame in live_frames():
            told = LiveFrame(frame).told()
            self.assertEqual(told, told_of(frame))
            self.assertEqual(list(told), sorted(told))
            self.assertIsInstance(told["left"], tuple)
            self.assertTrue(all(isinstance(pair, tuple) for pair in told["left"]))
            self.assertEqual(list(told["left"]), sorted(told["left"]))
            self.assertTrue(is_ascending(told["one"]))
            self.assertIs(type(told["turns"]), bool)

    def test_what_is_handed_in_and_returned_may_be_changed(self):
        live = LiveFrame(letters_frame())
        order = [7, 6, 5, 4, 3, 2, 1, 0]
        live.do(("rename", order))
        order.clear()
        self.assertEqual(live.deeds(), [("rename", (7, 6, 5, 4, 3, 2, 1, 0))])
        seen = state(live)
        live.deeds().append(("turn",))
        live.told()["one"].clear()
        live.told().clear()
        live.watched()["a"] = None
        places = [7]
        live.undo()
        live.do(("part", places))
        places.append(6)
        live.undo()
        refused(self, NothingLeft, None, None, live.undo)
        live.redo()
        self.assertEqual(live.deeds(), [("part", (7,))])
        live.undo()
        live.do(("rename", [7, 6, 5, 4, 3, 2, 1, 0]))
        self.assertEqual(state(live), seen)
        self.assertEqual(live.standing, 1)


if __name__ == "__main__":
    unittest.main()
