"""What each deed makes of a frame, and where it leads the rows of the places.

Ways are told as a dict from places of the frame ahead to rows of the frame behind: a row with a place that is
lacking is let go. None in their place lets go all rows.
"""

from leftproducts.errors import BadNumber, BadTable
from leftproducts.frames import Frame, steps_of
from leftproducts.rows import one_row
from leftproducts.sides import beside, plain_part, renamed, turned
from leftproducts.solving import inverse
from leftproducts.sums import led, product_sum


def _plain_ways(frame):
    return {place: {place: 1} for place in range(len(frame.heights))}


def _numbered_ways(places):
    return {place: {k: 1} for k, place in enumerate(places)}


def _stood_for(frame, place, row, back):
    # The frame where place stands for this row, all others for themselves; back is the place by the new ones.
    rows = {**_plain_ways(frame), place: row}
    ways = {**_plain_ways(frame), place: back}
    size, steps = len(rows), steps_of(frame)
    product = {(a, b): led(ways, product_sum(frame.product, rows[a], rows[b]), frame.prime)
               for a in range(size) for b in range(size)}
    step = {a: led(ways, led(steps, rows[a], frame.prime), frame.prime) for a in range(size)}
    return Frame(frame.prime, frame.heights, product, step), ways


def _mixed(frame, place, other, number):
    size = len(frame.heights)
    if place >= size or other >= size or place == other or frame.heights[place] != frame.heights[other]:
        raise BadTable("two places of one height are wanted")
    return _stood_for(frame, place, {place: 1, other: number}, {place: 1, other: -number})


def _scaled(frame, place, number):
    if place >= len(frame.heights):
        raise BadTable("a place of the frame is wanted")
    if number % frame.prime == 0:
        raise BadNumber("number")
    return _stood_for(frame, place, {place: number}, {place: inverse(number % frame.prime, frame.prime)})


def _beside_ways(frame, other):
    one = one_row(other)
    if one is None:
        return None
    # The pair (i, j) is the place i * size + j of the frames beside one another.
    size = len(other.heights)
    return {i: {i * size + j: number for j, number in one.items()} for i in range(len(frame.heights))}


def after_deed(frame, deed):
    """The pair of the frame that a deed makes of the frame, and of the ways of rows; what it may raise is raised."""
    word = deed[0]
    if word == "turn":
        return turned(frame), _plain_ways(frame)
    if word == "rename":
        return renamed(frame, deed[1]), _numbered_ways(deed[1])
    if word == "part":
        return plain_part(frame, deed[1]), _numbered_ways(deed[1])
    if word == "beside":
        return beside(frame, deed[1]), _beside_ways(frame, deed[1])
    if word == "mix":
        return _mixed(frame, deed[1], deed[2], deed[3])
    return _scaled(frame, deed[1], deed[2])


def rows_along(prime, ways, rows):
    """Those of the named rows that are not let go, led along."""
    if ways is None:
        return {}
    return {name: led(ways, row, prime) for name, row in rows.items() if all([place in ways for place in row])}
