"""Whether three rows of a frame hang together: what is left of their product up to products with what is left."""

from leftproducts.frames import steps_of
from leftproducts.leftovers import is_left
from leftproducts.rows import heights_of, multiplied
from leftproducts.solving import basis_of, less_basis, nothing_sums, one_sum, tagged
from leftproducts.sums import add_to, sign


def _is_left_at_one_height(frame, row):
    return len(heights_of(frame, row)) <= 1 and is_left(frame, row)


def _ahead_and_behind(frame, one, last, lefts):
    ahead = [multiplied(frame, one, row) for row in lefts]
    return ahead + [multiplied(frame, row, last) for row in lefts]


def three_told(frame, one, other, last):
    """Whether x times last less (-1) ** (height of one) times one times y is a sum of a step and of products of
    one, and of last, with rows that are left; x and y have the products of neighbours as steps. None if the rows
    are not left, or not of one height each, or if there is no x or no y."""
    if not all([_is_left_at_one_height(frame, row) for row in (one, other, last)]):
        return None
    size, steps = len(frame.heights), steps_of(frame)
    basis = basis_of(tagged(steps, size), frame.prime)
    x = one_sum(basis, size, multiplied(frame, one, other), frame.prime)
    y = one_sum(basis, size, multiplied(frame, other, last), frame.prime)
    if x is None or y is None:
        return None
    high = sum(heights_of(frame, one))
    total = multiplied(frame, x, last)
    add_to(total, multiplied(frame, one, y), -sign(high))
    lefts = nothing_sums(basis, size)
    held = basis_of(steps + _ahead_and_behind(frame, one, last, lefts), frame.prime)
    return not less_basis(held, total, frame.prime)
