"""Doubtful products of three and four fine rows of a book."""

from leftproducts.errors import BadMany, BadRow
from leftproducts.judging import is_row, need_few
from leftproducts.many import need_many, rows_product
from leftproducts.solving import all_sums, basis_of, less_basis, nothing_sums, one_sum, tagged
from leftproducts.sums import add_to, led, product_sum, tidied
from leftproducts.tidyrows import tidy_rows


def _need_book(many, length):
    need_many(many)
    if any([len(word) == 1 for word in many.products]):
        raise BadMany("step")
    if many.most < length:
        raise BadMany("most")


def need_fine(prime, heights, rows):
    """The list of the heights of the rows; raises BadRow unless all are fine rows."""
    found = []
    for row in rows:
        if not is_row(row, len(heights)):
            raise BadRow("rows of the places are wanted")
        levels = sorted({heights[place] for place in tidied(row, prime)})
        if len(levels) != 1:
            raise BadRow("rows of places of one height are wanted")
        found.append(levels[0])
    return found


def _at_height(heights, height):
    return [{place: 1} for place, level in enumerate(heights) if level == height]


def _doubts(prime, heights, tell, ends, levels):
    # All products of places of the first height ahead of the last row, of the second behind the first one.
    first, last = ends
    ahead = [tell([single, last]) for single in _at_height(heights, levels[0])]
    behind = [tell([first, single]) for single in _at_height(heights, levels[1])]
    return tidy_rows(prime, ahead + behind)


def _less(doubts, row, prime):
    return less_basis({min(one): one for one in doubts}, row, prime)


def three_told(prime, heights, tell, rows):
    """The doubtful product of three fine rows, with products told of lists of rows; None if it is not there."""
    high = need_fine(prime, heights, rows)
    one, other, third = rows
    if tell([one, other]) or tell([other, third]):
        return None
    levels = (high[0] + high[1] - 1, high[1] + high[2] - 1)
    doubts = _doubts(prime, heights, tell, (one, third), levels)
    return _less(doubts, tell(rows), prime), doubts


def _conditions(tell, rows, spots, size):
    # What each single of the spots puts to the products of the first three rows, and, numbered behind
    # the places, to those of the last three.
    one, other, third, fourth = rows
    found = [tell([single, third]) for single in spots[0]]
    for single in spots[1]:
        behind = tell([single, fourth])
        found.append({**tell([one, single]), **{place + size: behind[place] for place in behind}})
    for single in spots[2]:
        behind = tell([other, single])
        found.append({place + size: behind[place] for place in behind})
    return found


def _all_thirds(prime, size, tell, rows, spots):
    # All rows of numbers for the singles of the spots that make both products of three nothing.
    columns = _conditions(tell, rows, spots, size)
    basis = basis_of(tagged(columns, 2 * size), prime)
    aim = {place: -number for place, number in tell(rows[:3]).items()}
    aim.update({place + size: -number for place, number in tell(rows[1:]).items()})
    found = one_sum(basis, 2 * size, aim, prime)
    if found is None:
        return []
    return all_sums(found, nothing_sums(basis, 2 * size), prime)


def _values(prime, tell, rows, spots, thirds):
    # What comes of each row of numbers: all of it goes straight but for the products of h and l.
    one, other, third, fourth = rows
    straight = [tell([single, third, fourth]) for single in spots[0]]
    straight = straight + [tell([one, single, fourth]) for single in spots[1]]
    straight = straight + [tell([one, other, single]) for single in spots[2]]
    behind = len(spots[0]) + len(spots[1])
    both = {(h, behind + k): tell([left, right]) for h, left in enumerate(spots[0])
            for k, right in enumerate(spots[2])}
    start = tell(rows)
    found = []
    for numbers in thirds:
        total = dict(start)
        add_to(total, led(straight, numbers, prime), 1)
        add_to(total, product_sum(both, numbers, numbers), 1)
        found.append(total)
    return found


def four_told(prime, heights, tell, rows):
    """The doubtful product of four fine rows, likewise."""
    high = need_fine(prime, heights, rows)
    if any([tell([rows[k], rows[k + 1]]) for k in range(3)]):
        return None
    spots = [_at_height(heights, high[k] + high[k + 1] - 1) for k in range(3)]
    need_few(prime, sum([len(singles) for singles in spots]), 6561)
    thirds = _all_thirds(prime, len(heights), tell, rows, spots)
    levels = (high[0] + high[1] + high[2] - 2, high[1] + high[2] + high[3] - 2)
    doubts = _doubts(prime, heights, tell, (rows[0], rows[3]), levels)
    found = {}
    for value in _values(prime, tell, rows, spots, thirds):
        row = _less(doubts, value, prime)
        found[tuple(row.items())] = row
    return tuple([found[told] for told in sorted(found)]), doubts


def doubt_of_three(many, one, other, third):
    """The pair of a row and of its doubts; None unless the products of neighbours are nothing."""
    _need_book(many, 3)
    return three_told(many.prime, many.heights, lambda rows: rows_product(many, rows), [one, other, third])


def doubt_of_four(many, one, other, third, fourth):
    """The pair of all rows that come and of their doubts; None unless the products of neighbours are nothing."""
    _need_book(many, 4)
    return four_told(many.prime, many.heights, lambda rows: rows_product(many, rows), [one, other, third, fourth])
