"""What points 90 and 91 tell of deeds, worked out for the tests, and deeds by chance."""

from leftproducts.frames import Frame
from leftproducts.makers import faces_frame, turning_frame, words_frame
from leftproducts.rows import one_row
from leftproducts.sides import beside, plain_part, renamed, turned
from tests.books import hidden_three
from tests.helpers import (all_rows, circle_frame, clean, frame_product, frame_step, is_sum_of, letters_frame,
                           mixed_frame, plus, rebased, sign, small_frames, spread)


def rows_of_deed(frame, deed):
    """For mix and scale the rows by which places are told anew, and those back."""
    prime, size = frame.prime, len(frame.heights)
    there = [{k: 1} for k in range(size)]
    back = [{k: 1} for k in range(size)]
    place, number = deed[1], deed[-1]
    if deed[0] == "mix":
        back[place] = clean({place: 1, deed[2]: number}, prime)
        there[place] = clean({place: 1, deed[2]: -number}, prime)
    else:
        back[place] = {place: number % prime}
        there[place] = {place: pow(number, -1, prime)}
    return there, back


def frame_after(frame, deed):
    """The frame that a deed makes, where it can be done."""
    if deed[0] == "turn":
        return turned(frame)
    if deed[0] == "rename":
        return renamed(frame, deed[1])
    if deed[0] == "part":
        return plain_part(frame, tuple(deed[1]))
    if deed[0] == "beside":
        return beside(frame, deed[1])
    return rebased(frame, *rows_of_deed(frame, deed))


def row_after(frame, deed, row):
    """Where a deed leads a row; None if it is let go."""
    if deed[0] == "turn":
        return dict(row)
    if deed[0] in ("rename", "part"):
        if any(place not in deed[1] for place in row):
            return None
        return {k: row[place] for k, place in enumerate(deed[1]) if place in row}
    if deed[0] == "beside":
        one, size = one_row(deed[1]), len(deed[1].heights)
        if one is None:
            return None
        return clean({i * size + j: n * m for i, n in row.items() for j, m in one.items()}, frame.prime)
    return spread(rows_of_deed(frame, deed)[0], row, frame.prime)


def mates(prime):
    """Frames to be put beside others: with a one and without, of a sum as one, and without places."""
    return [Frame(prime, [0], {(0, 0): {0: 1}}, {}), Frame(prime, [1], {}, {}), Frame(prime, [], {}, {}),
            faces_frame(prime, [(0,), (1,)]), turning_frame(prime, 1, [{}])]


def live_frames():
    found = [frame for frame in small_frames() if len(frame.heights) <= 8]
    low = Frame(5, [-1, 0, 0], {(0, 1): {0: 1}, (1, 0): {0: 1}, (1, 1): {1: 1}, (1, 2): {2: 1}, (2, 1): {2: 1}},
                {0: {2: 1}})
    return found + [faces_frame(3, [(0,), (1,), (0, 1)]), hidden_three(), mixed_frame(hidden_three(5), 1), low,
                    turning_frame(2, 3, [{}, {}, {(0, 1): 1}])]


def closed_parts(frame):
    """Some tuples of places of which a part can be made: those from a height on."""
    found = [()]
    for least in sorted(set(frame.heights)):
        if least >= 0:
            found.append(tuple(k for k, height in enumerate(frame.heights) if height >= least))
    return found


def random_deed(rnd, frame, kinds=("turn", "rename", "part", "mix", "scale", "beside")):
    """A deed that can be done to the frame, of one of these kinds; most parts and mates are left out."""
    size = len(frame.heights)
    kind = rnd.choice(kinds)
    if kind == "part" and rnd.random() < 0.3:
        return "part", rnd.choice(closed_parts(frame))
    if kind == "rename":
        return "rename", rnd.sample(range(size), size)
    if kind == "beside" and size and rnd.random() < 0.3:
        other = rnd.choice(mates(frame.prime))
        if 0 < size * len(other.heights) <= 8 and max(frame.heights) < 15:
            return "beside", other
    pairs = [(a, b) for a in range(size) for b in range(size) if a != b and frame.heights[a] == frame.heights[b]]
    if kind == "mix" and pairs:
        return ("mix", *rnd.choice(pairs), rnd.randrange(-99, 100))
    if kind == "scale" and size:
        return "scale", rnd.randrange(size), rnd.choice([n for n in range(-99, 100) if n % frame.prime])
    return ("turn",)


def tidied_deed(deed):
    return tuple(tuple(part) if isinstance(part, list) else part for part in deed)


class ThreeByRows:
    """three of rows, as point 91 tells it, by all rows of the frame: x and y are several that fit."""

    def __init__(self, frame):
        self.frame = frame
        self.places = range(len(frame.heights))
        # All rows by their steps, and a few left that tell all others.
        self.rows = {}
        for row in all_rows(frame.prime, self.places):
            self.rows.setdefault(tuple(frame_step(frame, row).items()), []).append(row)
        self.lefts = []
        for row in self.rows[()]:
            if not is_sum_of(row, self.lefts, frame.prime):
                self.lefts.append(row)

    def told(self, a, b, c):
        frame = self.frame
        for row in (a, b, c):
            if len({frame.heights[place] for place in row}) > 1 or frame_step(frame, row):
                return None
        xs = self.rows.get(tuple(frame_product(frame, a, b).items()))
        ys = self.rows.get(tuple(frame_product(frame, b, c).items()))
        if not xs or not ys:
            return None
        held = [frame_step(frame, {place: 1}) for place in self.places]
        held += [frame_product(frame, a, row) for row in self.lefts]
        held += [frame_product(frame, row, c) for row in self.lefts]
        answers = set()
        for x in xs[:2] + xs[-2:]:
            for y in ys[:2] + ys[-2:]:
                total = frame_product(frame, x, c)
                plus(total, frame_product(frame, a, y), -sign(frame.heights[min(a)] if a else 0))
                answers.add(is_sum_of(total, held, frame.prime))
        assert len(answers) == 1, "it hangs on the choice of x and y"
        return answers.pop()


def letters_with_more():
    """Frames in which three rows hang together, and ones in which they do not."""
    return [letters_frame(), mixed_frame(letters_frame(), 3), turning_frame(2, 3, [{}, {}, {(0, 1): 1}]),
            hidden_three(), circle_frame(2), words_frame(3, [1, 1], [{}, {(0, 0): 1}], 2)]
