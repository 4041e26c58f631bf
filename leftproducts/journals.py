"""Journals: texts of what a live frame began with, and of its deeds."""

from leftproducts.deedtexts import deed_of_text, deed_text
from leftproducts.errors import BadLive, BadText, LeftError
from leftproducts.frametexts import frame_line, frame_of_line
from leftproducts.live import LiveFrame


def journal_text(live):
    """The text of the frame that a live frame began with, and of the deeds that are done."""
    if not isinstance(live, LiveFrame):
        raise BadLive("a live frame is wanted")
    return "\n".join([f"live {frame_line(live.begun)}"] + [deed_text(deed) for deed in live.deeds()])


def _begun_of(line):
    word, _, rest = line.partition(" ")
    if word != "live":
        raise BadText(0)
    try:
        return LiveFrame(frame_of_line(rest))
    except BadText:
        raise BadText(0) from None


def led_live(text):
    """The live frame with this text."""
    if not isinstance(text, str):
        raise BadText(0)
    lines = text.split("\n")
    live = _begun_of(lines[0])
    for at in range(1, len(lines)):
        try:
            live.do(deed_of_text(lines[at]))
        except LeftError:
            raise BadText(at) from None
    return live
