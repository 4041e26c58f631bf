"""Texts of frames: a line of the prime and the heights, then a line for each row of the product and of the step."""

from leftproducts.errors import BadText, LeftError
from leftproducts.frames import Frame, need_frame
from leftproducts.judging import is_prime


def row_text(row):
    """The text of a row."""
    return " ".join([f"{place}:{row[place]}" for place in row]) if row else "-"


def frame_text(frame):
    """The text of a frame."""
    need_frame(frame)
    lines = [" ".join(["frame", str(frame.prime)] + [str(height) for height in frame.heights])]
    lines = lines + [f"{a} {b} = {row_text(row)}" for (a, b), row in frame.product.items()]
    lines = lines + [f"{a} > {row_text(row)}" for a, row in frame.step.items()]
    return "\n".join(lines)


def number_of(word, least, most):
    """The number from least to most that is written so; None if there is none. It has at most two digits."""
    digits = word[1:] if word.startswith("-") else word
    if not 1 <= len(digits) <= 2 or not all([digit in "0123456789" for digit in digits]):
        return None
    number = int(word)
    # Only one way to write a number counts: without zeros ahead.
    return number if str(number) == word and least <= number <= most else None


def numbers_of(words, least, most):
    """The list of the numbers from least to most that are written so; None if one is not."""
    found = [number_of(word, least, most) for word in words]
    return None if None in found else found


def row_of(words):
    """The row that is written in these words, of places from 0 to 31 and numbers from 1 to 30; None if they are
    of another form."""
    if words == ["-"]:
        return {}
    row = {}
    for word in words:
        parts = word.split(":")
        if len(parts) != 2:
            return None
        place, number = number_of(parts[0], 0, 31), number_of(parts[1], 1, 30)
        if place is None or number is None or (row and place <= max(row)):
            return None
        row[place] = number
    return row


def _first_told(line):
    # The pair of the prime and the heights; None if the line has not the form.
    words = line.split(" ")
    if words[0] != "frame" or len(words) < 2 or len(words) > 34:
        return None
    prime, heights = number_of(words[1], 2, 31), numbers_of(words[2:], -8, 16)
    if not is_prime(prime) or heights is None:
        return None
    return prime, heights


def _row_told(line):
    # The pair of the places ahead of the sign, and the row behind it; None if the line has not the form.
    words = line.split(" ")
    signs = [k for k, word in enumerate(words) if (k, word) in ((1, ">"), (2, "="))]
    if not signs:
        return None
    places, row = numbers_of(words[:signs[0]], 0, 31), row_of(words[signs[0] + 1:])
    return (tuple(places), row) if places is not None and row else None


def _lines_told(lines):
    # What Frame wants, by the lines of a text.
    first = _first_told(lines[0])
    if first is None:
        raise BadText(0)
    product, steps = {}, {}
    for at in range(1, len(lines)):
        told = _row_told(lines[at])
        if told is None:
            raise BadText(at)
        places, row = told
        if len(places) == 2:
            product[places] = row
        else:
            steps[places[0]] = row
    return first[0], first[1], product, steps


def frame_of_text(text):
    """The frame with this text."""
    if not isinstance(text, str):
        raise BadText(0)
    lines = text.split("\n")
    prime, heights, product, steps = _lines_told(lines)
    try:
        frame = Frame(prime, heights, product, steps)
    except LeftError:
        raise BadText(len(lines)) from None
    # Lines out of sequence, or told twice, are of right form, but this is not the text.
    if frame_text(frame) != text:
        raise BadText(len(lines))
    return frame


def frame_line(frame):
    """The text of a frame in one line."""
    return frame_text(frame).replace("\n", " / ")


def frame_of_line(line):
    """The frame with this text in one line."""
    if "\n" in line:
        raise BadText(0)
    return frame_of_text(line.replace(" / ", "\n"))
