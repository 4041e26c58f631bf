"""Plain maps: rows of another frame for the places of one, that lead products to products and steps to steps."""

from leftproducts.choices import tidied_choice
from leftproducts.errors import BadTable
from leftproducts.frames import need_frame, steps_of
from leftproducts.judging import are_rows
from leftproducts.sums import led, product_sum, tidied


def _leads_products(one, other, rows):
    size = len(rows)
    for a in range(size):
        for b in range(size):
            both = tidied(product_sum(other.product, rows[a], rows[b]), one.prime)
            if led(rows, one.product.get((a, b), {}), one.prime) != both:
                return False
    return True


def is_plain_map(one, other, rows):
    """Whether any value is a plain map from one to other."""
    need_frame(one)
    need_frame(other)
    if one.prime != other.prime or not are_rows(rows, len(one.heights), len(other.heights)):
        return False
    tidy = [tidied(row, one.prime) for row in rows]
    for height, row in zip(one.heights, tidy):
        if not all([other.heights[place] == height for place in row]):
            return False
    there, here = steps_of(other), steps_of(one)
    if any([led(tidy, here[k], one.prime) != led(there, row, one.prime) for k, row in enumerate(tidy)]):
        return False
    return _leads_products(one, other, tidy)


def map_left(one, choice, other, mate, rows):
    """For each leftover of one the row of leftovers of other to which the plain map leads it."""
    need_frame(one)
    need_frame(other)
    within, _, _ = tidied_choice(one, choice)
    _, onto, _ = tidied_choice(other, mate)
    if not is_plain_map(one, other, rows):
        raise BadTable("a plain map is wanted")
    return tuple([led(onto, led(rows, row, one.prime), one.prime) for row in within])
