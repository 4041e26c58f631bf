"""Frames turned about, beside one another, told in another sequence, and parts of them."""

from leftproducts.errors import BadFrame, BadTable, TooMany
from leftproducts.frames import Frame, need_frame
from leftproducts.judging import is_list, is_word
from leftproducts.sums import sign


def turned(frame):
    """The frame whose products are taken the other way round, with the sign of going past."""
    need_frame(frame)
    product = {}
    for (a, b), row in frame.product.items():
        turn = sign(frame.heights[a] * frame.heights[b])
        product[b, a] = {place: turn * number for place, number in row.items()}
    return Frame(frame.prime, frame.heights, product, frame.step)


def _beside_row(left, right, size, times):
    # The pair (i, j) is the place i * size + j, size being how many places the other frame has.
    return {i * size + j: times * n * m for i, n in left.items() for j, m in right.items()}


def _beside_products(one, other):
    size = len(other.heights)
    product = {}
    for (a, c), left in one.product.items():
        for (b, d), right in other.product.items():
            times = sign(other.heights[b] * one.heights[c])
            product[a * size + b, c * size + d] = _beside_row(left, right, size, times)
    return product


def _beside_steps(one, other):
    size = len(other.heights)
    steps = {}
    for a, height in enumerate(one.heights):
        for b in range(size):
            ahead = _beside_row(one.step.get(a, {}), {b: 1}, size, 1)
            behind = _beside_row({a: 1}, other.step.get(b, {}), size, sign(height))
            steps[a * size + b] = {**ahead, **behind}
    return steps


def beside(one, other):
    """The frame of all pairs of a place of one and a place of other."""
    need_frame(one)
    need_frame(other)
    if one.prime != other.prime:
        raise BadFrame("prime")
    heights = [height + more for height in one.heights for more in other.heights]
    if not all([-8 <= height <= 16 for height in heights]):
        raise BadFrame("heights")
    if len(heights) > 32:
        raise TooMany(32)
    return Frame(one.prime, heights, _beside_products(one, other), _beside_steps(one, other))


def _numbered_anew(frame, places):
    # Rows of other places are left out: they are none of this part's.
    at = {place: k for k, place in enumerate(places)}
    product = {}
    for (a, b), row in frame.product.items():
        if a in at and b in at:
            product[at[a], at[b]] = {at[place]: number for place, number in row.items()}
    steps = {}
    for a, row in frame.step.items():
        if a in at:
            steps[at[a]] = {at[place]: number for place, number in row.items()}
    return Frame(frame.prime, [frame.heights[place] for place in places], product, steps)


def renamed(frame, order):
    """The same frame with its places in another sequence: order[k] becomes k."""
    need_frame(frame)
    size = len(frame.heights)
    if not is_list(order) or not is_word(tuple(order), size, size, size):
        raise BadTable("all places in some sequence are wanted")
    if sorted(order) != list(range(size)):
        raise BadTable("each place is wanted once")
    return _numbered_anew(frame, order)


def _is_closed(frame, places):
    lot = {place: True for place in places}
    rows = [row for (a, b), row in frame.product.items() if a in lot and b in lot]
    rows = rows + [row for a, row in frame.step.items() if a in lot]
    return all([place in lot for row in rows for place in row])


def plain_part(frame, places):
    """The frame of some of the places, beyond which no product or step of them leads."""
    need_frame(frame)
    size = len(frame.heights)
    if not is_word(places, size, 0, size):
        raise BadTable("a tuple of places is wanted")
    if not all([places[k] < places[k + 1] for k in range(len(places) - 1)]):
        raise BadTable("the places are to ascend")
    if not _is_closed(frame, places):
        raise BadTable("products or steps lead to other places")
    return _numbered_anew(frame, places)
