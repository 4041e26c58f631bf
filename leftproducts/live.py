"""Live frames: deeds are done to a frame, taken back and done again, and rows that are watched go along."""

from leftproducts.deedways import after_deed, rows_along
from leftproducts.errors import BadDeed, BadName, NothingLeft, NoWatch
from leftproducts.frames import Frame, need_frame
from leftproducts.judging import is_between, is_list
from leftproducts.leftovers import is_left, is_made, left_sizes
from leftproducts.rows import need_row, one_row
from leftproducts.sides import turned
from leftproducts.sums import tidied
from leftproducts.threes import three_told

LETTERS = "abcdefghijklmnopqrstuvwxyz"


def _is_place(thing):
    return is_between(thing, 0, 31)


def _are_places(thing):
    return is_list(thing) and all([_is_place(place) for place in thing])


def is_deed(thing):
    """Whether any value is a deed."""
    if not isinstance(thing, tuple) or not thing or not isinstance(thing[0], str):
        return False
    word, told = thing[0], thing[1:]
    if word == "turn":
        return not told
    if word in ("rename", "part"):
        return len(told) == 1 and _are_places(told[0])
    if word == "mix":
        return len(told) == 3 and _is_place(told[0]) and _is_place(told[1]) and is_between(told[2], -99, 99)
    if word == "scale":
        return len(told) == 2 and _is_place(told[0]) and is_between(told[1], -99, 99)
    return word == "beside" and len(told) == 1 and isinstance(told[0], Frame)


def _tidied_deed(deed):
    return tuple([tuple(part) if isinstance(part, list) else part for part in deed])


def is_name(thing):
    """Whether any value is a name."""
    return isinstance(thing, str) and 1 <= len(thing) <= 8 and all([letter in LETTERS for letter in thing])


class LiveFrame:
    """A frame to which deeds are done, with rows that are watched."""

    def __init__(self, frame):
        need_frame(frame)
        self.begun = frame
        self.frame = frame
        self.standing = 0
        # What is done: triples of a deed, and of the frame and the watched rows just ahead of it. A dict of rows
        # is never changed, so it may stand in several of them.
        self._done = []
        self._taken = []
        self._rows = {}

    def _take(self, deed):
        after, ways = after_deed(self.frame, deed)
        rows = rows_along(self.frame.prime, ways, self._rows)
        self._done.append((deed, self.frame, self._rows))
        self.frame = after
        self._rows = rows
        self.standing += 1

    def do(self, deed):
        """Does the deed; what is refused changes nothing."""
        if not is_deed(deed):
            raise BadDeed("a deed is wanted")
        self._take(_tidied_deed(deed))
        self._taken = []

    def deeds(self):
        """The deeds done, in sequence."""
        return [deed for deed, _, _ in self._done]

    def undo(self):
        """Takes the last deed done back, with what it did to watched rows."""
        if not self._done:
            raise NothingLeft("there is no deed to take back")
        deed, self.frame, self._rows = self._done.pop()
        self.standing -= 1
        self._taken.append(deed)

    def redo(self):
        """Does the deed last taken back again."""
        if not self._taken:
            raise NothingLeft("there is no deed to do again")
        self._take(self._taken.pop())

    def told(self):
        """What there is to tell of the present frame."""
        frame = self.frame
        return {"heights": frame.heights, "left": tuple(left_sizes(frame).items()), "one": one_row(frame),
                "places": len(frame.heights), "prime": frame.prime, "turns": turned(frame) == frame}

    def watch(self, name, row):
        """Watches a row of the present frame under this name."""
        if not is_name(name):
            raise BadName("a name of 1 to 8 letters from a to z is wanted")
        need_row(self.frame, row)
        self._rows = {**self._rows, name: tidied(row, self.frame.prime)}

    def _watched_row(self, name):
        # Any value may be asked for, what is no key of a dict, too.
        if not isinstance(name, str) or name not in self._rows:
            raise NoWatch(name)
        return self._rows[name]

    def unwatch(self, name):
        """Watches the row of this name no longer."""
        self._watched_row(name)
        self._rows = {one: row for one, row in self._rows.items() if one != name}

    def watched(self):
        """The watched rows by their names, each with whether it is left and whether it is made."""
        found = {}
        for name in sorted(self._rows):
            row = self._rows[name]
            found[name] = (dict(row), is_left(self.frame, row), is_made(self.frame, row))
        return found

    def three(self, one, other, last):
        """Whether the rows of these names hang together."""
        rows = [self._watched_row(name) for name in (one, other, last)]
        return three_told(self.frame, rows[0], rows[1], rows[2])
