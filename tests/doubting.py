"""Doubtful products as points 51 and 52 tell them, for the tests: all sums gone through one by one."""

from itertools import product as pairs_of

from leftproducts.tidyrows import row_less, tidy_rows
from tests.helpers import all_rows, clean, is_sum_of, plus, rows_told


def at_height(heights, height):
    return [k for k, level in enumerate(heights) if level == height]


def height_of(heights, row, prime):
    height, = {heights[k] for k in clean(row, prime)}
    return height


def added(prime, *rows):
    total = {}
    for row in rows:
        plus(total, row, 1)
    return clean(total, prime)


def fine_rows(prime, heights, rnd, many):
    """So many fine rows, taken at random."""
    found = []
    while heights and len(found) < many:
        place = rnd.randrange(len(heights))
        row = {place: rnd.randrange(-prime, prime)}
        if rnd.random() < 0.5:
            row.update({k: rnd.randrange(-prime, prime) for k in at_height(heights, heights[place])})
        if clean(row, prime):
            found.append(row)
    return found


def has_doubt(many, rows):
    """Whether the products of neighbours are nothing."""
    return not any(rows_told(many.products, rows[k:k + 2], many.prime) for k in range(len(rows) - 1))


def many_fine_rows(many, rnd, length, good):
    """Lists of so many fine rows: a few with neighbours that have a product, good ones without if there are so many."""
    found, others = [], []
    for place in range(len(many.heights)):
        rows = [{place: rnd.randrange(1, many.prime)} for _ in range(length)]
        (found if has_doubt(many, rows) else others).append(rows)
    for _ in range(40 * good):
        rows = fine_rows(many.prime, many.heights, rnd, length)
        if rows and len(found) < good:
            (found if has_doubt(many, rows) else others).append(rows)
    return found + others[:3]


def doubts_of(many, one, last, ahead, behind):
    tell, prime = many.products, many.prime
    rows = [rows_told(tell, [{h: 1}, last], prime) for h in at_height(many.heights, ahead)]
    return tidy_rows(prime, rows + [rows_told(tell, [one, {k: 1}], prime) for k in at_height(many.heights, behind)])


def three(many, one, other, third):
    """doubt_of_three, told with rows_told alone."""
    prime = many.prime
    rows = [clean(row, prime) for row in (one, other, third)]
    if rows_told(many.products, rows[:2], prime) or rows_told(many.products, rows[1:], prime):
        return None
    high = [height_of(many.heights, row, prime) for row in rows]
    doubts = doubts_of(many, rows[0], rows[2], high[0] + high[1] - 1, high[1] + high[2] - 1)
    return row_less(prime, doubts, rows_told(many.products, rows, prime)), doubts


def four(many, one, other, third, fourth):
    """doubt_of_four, by all h, k, l."""
    prime, heights = many.prime, many.heights
    x, y, z, t = [clean(row, prime) for row in (one, other, third, fourth)]

    def tell(*rows):
        return rows_told(many.products, list(rows), prime)

    if tell(x, y) or tell(y, z) or tell(z, t):
        return None
    a, b, c, d = [height_of(heights, row, prime) for row in (x, y, z, t)]
    doubts = doubts_of(many, x, t, a + b + c - 2, b + c + d - 2)
    found = set()
    spots = [at_height(heights, level) for level in (a + b - 1, b + c - 1, c + d - 1)]
    for h, k, l in pairs_of(*[all_rows(prime, places) for places in spots]):
        if added(prime, tell(x, y, z), tell(h, z), tell(x, k)) or added(prime, tell(y, z, t), tell(k, t), tell(y, l)):
            continue
        value = added(prime, tell(x, y, z, t), tell(h, z, t), tell(x, k, t), tell(x, y, l), tell(h, l))
        found.add(tuple(row_less(prime, doubts, value).items()))
    return tuple(dict(told) for told in sorted(found)), doubts


def in_doubt(row, doubts, prime):
    return is_sum_of(row, doubts, prime)
