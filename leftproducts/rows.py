"""Rows of a frame: multiplied, stepped, added."""

from leftproducts.errors import BadRow
from leftproducts.frames import need_frame, steps_of
from leftproducts.judging import is_row, need_any_number
from leftproducts.solving import one_sum, put_to_basis
from leftproducts.sums import add_to, led, product_sum, tidied


def need_row(frame, row):
    """Raises BadRow unless row is one of the frame's places."""
    if not is_row(row, len(frame.heights)):
        raise BadRow("a row of the frame's places is wanted")


def multiplied(frame, one, other):
    """The product of two rows of the frame."""
    need_frame(frame)
    need_row(frame, one)
    need_row(frame, other)
    return tidied(product_sum(frame.product, one, other), frame.prime)


def stepped(frame, row):
    """The step of a row of the frame."""
    need_frame(frame)
    need_row(frame, row)
    return led(steps_of(frame), row, frame.prime)


def added(frame, one, other, times):
    """One and times times other."""
    need_frame(frame)
    need_row(frame, one)
    need_row(frame, other)
    need_any_number(times, "times")
    total = dict(one)
    add_to(total, other, times)
    return tidied(total, frame.prime)


def heights_of(frame, row):
    """The heights of the places of a row, each once, ascending."""
    need_frame(frame)
    need_row(frame, row)
    return tuple(sorted({frame.heights[place] for place in tidied(row, frame.prime)}))


def _one_wanted(frame, place):
    # All products of this place with a place, from either side, as one row.
    size = len(frame.heights)
    wanted = {}
    for other in range(size):
        for k, number in frame.product.get((place, other), {}).items():
            wanted[2 * other * size + k] = number
        for k, number in frame.product.get((other, place), {}).items():
            wanted[(2 * other + 1) * size + k] = number
    return wanted


def one_row(frame):
    """The row that leaves each place as it is, multiplied from either side; None without one."""
    need_frame(frame)
    size = len(frame.heights)
    behind = 2 * size * size
    basis = {}
    for place in range(size):
        put_to_basis(basis, {**_one_wanted(frame, place), behind + place: 1}, frame.prime)
    aim = {}
    for other in range(size):
        aim[2 * other * size + other] = 1
        aim[(2 * other + 1) * size + other] = 1
    return one_sum(basis, behind, aim, frame.prime)
