"""Choices: rows of what is left, and the two ways that lead to them."""

from leftproducts.errors import BadChoice
from leftproducts.frames import need_frame, steps_of
from leftproducts.judging import are_rows
from leftproducts.solving import ahead_of, basis_of, less_basis, put_to_basis, tagged, tags_of
from leftproducts.sums import add_to, led, product_sum, tidied, tidied_table


def _left_rows(prime, heights, made, kept):
    # Of the rows that the step leads to nothing those are taken that are free of what is made.
    basis = basis_of(made, prime)
    found = []
    for row in sorted(kept, key=lambda one: (heights[min(one)], min(one))):
        rest = put_to_basis(basis, row, prime)
        if rest:
            found.append(rest)
    return found


def split_by_steps(prime, heights, steps):
    """The rows left, those made, and for each of these a row whose step it is, of so many places with these
    heights and steps: each row has places of one height, and together they are free and as many as the places."""
    size = len(heights)
    solved = basis_of(tagged(steps, size), prime)
    firsts = sorted(solved)
    made = [ahead_of(solved[first], size) for first in firsts if first < size]
    roots = [tags_of(solved[first], size) for first in firsts if first < size]
    kept = [tags_of(solved[first], size) for first in firsts if first >= size]
    return _left_rows(prime, heights, made, kept), made, roots


def choice_of_split(prime, left, made, roots):
    """The choice that leaves these rows and undoes each row made to its root."""
    size = len(left) + len(made) + len(roots)
    # onto and undo tell of each place how much of the rows left, and of the rows made, is in it.
    basis = basis_of(tagged([*left, *made, *roots], size), prime)
    onto, undo = [], []
    for place in range(size):
        shares = tags_of(less_basis(basis, {place: 1}, prime), size)
        onto.append(tidied({k: -shares[k] for k in shares if k < len(left)}, prime))
        of_made = {k - len(left): shares[k] for k in shares if len(left) <= k < len(left) + len(made)}
        undo.append(led(roots, of_made, prime))
    return tuple(left), tuple(onto), tuple(undo)


def choice_of_steps(prime, heights, steps):
    """A choice for so many places with these heights and steps."""
    left, made, roots = split_by_steps(prime, heights, steps)
    return choice_of_split(prime, left, made, roots)


def _is_triple_of_rows(frame, thing):
    if not isinstance(thing, tuple) or len(thing) != 3:
        return False
    within, onto, undo = thing
    size = len(frame.heights)
    if not isinstance(within, tuple) or not are_rows(within, len(within), size):
        return False
    return are_rows(onto, size, len(within)) and are_rows(undo, size, size)


def _tidied_choice(frame, choice):
    within, onto, undo = choice
    return (tuple([tidied(row, frame.prime) for row in within]),
            tuple([tidied(row, frame.prime) for row in onto]),
            tuple([tidied(row, frame.prime) for row in undo]))


def _fits_heights(frame, within, onto, undo):
    heights = frame.heights
    for row in within:
        if not row or not all([heights[place] == heights[min(row)] for place in row]):
            return False
    levels = [heights[min(row)] for row in within]
    for place, height in enumerate(heights):
        if not all([levels[k] == height for k in onto[place]]):
            return False
        if not all([heights[k] == height - 1 for k in undo[place]]):
            return False
    return True


def _undoes_steps(prime, steps, within, onto, undo):
    # The step of undo and undo of the step are within of onto less the place itself.
    for place in range(len(steps)):
        total = led(steps, undo[place], prime)
        add_to(total, led(undo, steps[place], prime), 1)
        add_to(total, led(within, onto[place], prime), -1)
        add_to(total, {place: 1}, 1)
        if tidied(total, prime):
            return False
    return True


def keeps_choice_rules(prime, steps, within, onto, undo):
    """Whether tidied rows are a choice for so many places with these steps, heights left aside."""
    for k, row in enumerate(within):
        if led(steps, row, prime) or led(onto, row, prime) != {k: 1} or led(undo, row, prime):
            return False
    for place in range(len(steps)):
        if led(onto, steps[place], prime) or led(onto, undo[place], prime) or led(undo, undo[place], prime):
            return False
    return _undoes_steps(prime, steps, within, onto, undo)


def is_choice(frame, thing):
    """Whether any value is a choice for the frame."""
    need_frame(frame)
    if not _is_triple_of_rows(frame, thing):
        return False
    within, onto, undo = _tidied_choice(frame, thing)
    return (_fits_heights(frame, within, onto, undo)
            and keeps_choice_rules(frame.prime, steps_of(frame), within, onto, undo))


def tidied_choice(frame, choice):
    """The choice with tidied rows; raises BadChoice unless it is one for the frame."""
    if not is_choice(frame, choice):
        raise BadChoice("a choice for the frame is wanted")
    return _tidied_choice(frame, choice)


def made_choice(frame):
    """A choice for the frame."""
    need_frame(frame)
    return choice_of_steps(frame.prime, frame.heights, steps_of(frame))


def levels_of(heights, within):
    """The heights of the leftovers that these rows stand for."""
    return tuple([heights[min(row)] for row in within])


def left_heights(frame, choice):
    """The heights of the leftovers of a choice for the frame."""
    within, _, _ = tidied_choice(frame, choice)
    return levels_of(frame.heights, within)


def left_product(frame, choice):
    """The products of pairs of leftovers."""
    within, onto, _ = tidied_choice(frame, choice)
    table = {}
    for a, one in enumerate(within):
        for b, other in enumerate(within):
            both = tidied(product_sum(frame.product, one, other), frame.prime)
            table[a, b] = led(onto, both, frame.prime)
    return tidied_table(table, frame.prime)
