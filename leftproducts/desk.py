"""A desk: a live frame that is spoken to by lines of text."""

from leftproducts.deedtexts import deed_of_text
from leftproducts.errors import BadText, LeftError
from leftproducts.frametexts import frame_text, row_of, row_text
from leftproducts.journals import journal_text
from leftproducts.live import LiveFrame, is_name

TOLD = ("prime", "places", "heights", "left", "one", "turns")
# How many words follow, names all but those of a row.
NAMED = {"drop": 1, "row": 1, "three": 3}


def _yes(answer):
    return "yes" if answer else "no"


def _tell(live, word):
    told = live.told()[word]
    if word == "heights":
        return " ".join([str(height) for height in told]) if told else "-"
    if word == "left":
        return row_text(dict(told))
    if word == "one":
        return "none" if told is None else row_text(told)
    return _yes(told) if word == "turns" else str(told)


def _move(live, word):
    try:
        if word == "undo":
            live.undo()
        else:
            live.redo()
    except LeftError:
        return "refused"
    return "done"


def _watch(live, words):
    row = row_of(words[1:])
    if not is_name(words[0]) or row is None:
        return "?"
    try:
        live.watch(words[0], row)
    except LeftError:
        return "refused"
    return "done"


def _row(live, name):
    row, left, made = live.watched()[name]
    return row_text(row) + (" left" if left else "") + (" made" if made else "")


def _three(live, names):
    answer = live.three(names[0], names[1], names[2])
    return "none" if answer is None else _yes(answer)


def _of_names(live, word, names):
    watched = live.watched()
    if not all([name in watched for name in names]):
        return "refused"
    if word == "three":
        return _three(live, names)
    if word == "row":
        return _row(live, names[0])
    live.unwatch(names[0])
    return "done"


def _deed(live, line):
    try:
        deed = deed_of_text(line)
    except BadText:
        return "?"
    try:
        live.do(deed)
    except LeftError:
        return "refused"
    return "done"


class Desk:
    """A live frame, and the answers to the lines that are said."""

    def __init__(self, frame):
        self.live = LiveFrame(frame)

    def say(self, line):
        """The answer to a line."""
        if not isinstance(line, str):
            return "?"
        live = self.live
        if line in TOLD:
            return _tell(live, line)
        if line == "frame":
            return frame_text(live.frame)
        if line == "journal":
            return journal_text(live)
        if line in ("undo", "redo"):
            return _move(live, line)
        words = line.split(" ")
        if words[0] == "watch" and len(words) > 2:
            return _watch(live, words[1:])
        if words[0] in NAMED and len(words) == NAMED[words[0]] + 1 and all([is_name(name) for name in words[1:]]):
            return _of_names(live, words[0], words[1:])
        return _deed(live, line)
