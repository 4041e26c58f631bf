"""Texts of deeds, a line each."""

from leftproducts.errors import BadDeed, BadText
from leftproducts.frametexts import frame_line, frame_of_line, numbers_of
from leftproducts.live import is_deed


def deed_text(deed):
    """The text of a deed."""
    if not is_deed(deed):
        raise BadDeed("a deed is wanted")
    word = deed[0]
    if word == "beside":
        return f"beside {frame_line(deed[1])}"
    numbers = deed[1] if word in ("rename", "part") else deed[1:]
    return " ".join([word] + [str(number) for number in numbers])


def _deed_told(text):
    # What is written in the text, a deed or not; None if it has not the form.
    word, _, rest = text.partition(" ")
    if word == "beside":
        return word, frame_of_line(rest)
    numbers = numbers_of(text.split(" ")[1:], -99, 99)
    if numbers is None:
        return None
    return (word, tuple(numbers)) if word in ("rename", "part") else (word, *numbers)


def deed_of_text(text):
    """The deed with this text."""
    if not isinstance(text, str):
        raise BadText(0)
    try:
        deed = _deed_told(text)
    except BadText:
        raise BadText(0) from None
    if not is_deed(deed):
        raise BadText(0)
    return deed
