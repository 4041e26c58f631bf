"""Ones of books of many products, and what a choice leaves of the one of a frame."""

from leftproducts.choices import tidied_choice
from leftproducts.judging import is_row
from leftproducts.many import need_many
from leftproducts.rows import one_row
from leftproducts.sums import add_to, led, sign, tidied, tidied_table


def _told_with(many, row):
    # For each spot and all other places of a word the product with the row at this spot.
    found = {}
    for word, told in many.products.items():
        for k, place in enumerate(word):
            if place in row:
                add_to(found.setdefault((k, word[:k] + word[k + 1:]), {}), told, row[place])
    return tidied_table(found, many.prime)


def _wanted(many):
    # Products of two alone are not nothing.
    found = {}
    for place, height in enumerate(many.heights):
        found[0, (place,)] = {place: 1}
        found[1, (place,)] = {place: sign(height)}
    return tidied_table(found, many.prime)


def is_one(many, row):
    """Whether any value is a one of the book."""
    need_many(many)
    if not is_row(row, len(many.heights)):
        return False
    tidy = tidied(row, many.prime)
    if not all([many.heights[place] == 0 for place in tidy]):
        return False
    return _told_with(many, tidy) == _wanted(many)


def one_left(frame, choice):
    """What onto makes of the one of the frame; None if it has none."""
    _, onto, _ = tidied_choice(frame, choice)
    one = one_row(frame)
    return None if one is None else led(onto, one, frame.prime)
