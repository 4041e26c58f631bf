"""Ends of a frame, the choices that fit them, and many products turned round."""

from leftproducts.choices import choice_of_split, split_by_steps, tidied_choice
from leftproducts.errors import BadEnd, BadWord, NotOdd
from leftproducts.frames import need_frame, steps_of
from leftproducts.judging import is_row, is_word
from leftproducts.solving import basis_of, inverse, one_sum, tagged
from leftproducts.sums import add_to, led, product_sum, sign, tidied


def _end_of(prime, end, row):
    return sum([number * end.get(place, 0) for place, number in row.items()]) % prime


def _end_of_both(frame, end, one, other):
    return _end_of(frame.prime, end, product_sum(frame.product, one, other))


def _end_table(frame, end):
    # For each place the ends of its products with the places behind it.
    size = len(frame.heights)
    return [{b: _end_of(frame.prime, end, frame.product.get((a, b), {})) for b in range(size)} for a in range(size)]


def _turns_about(frame, table):
    for a, height in enumerate(frame.heights):
        for b, more in enumerate(frame.heights):
            if (table[a][b] - sign(height * more) * table[b][a]) % frame.prime:
                return False
    return True


def is_end(frame, thing):
    """Whether any value is an end of the frame."""
    need_frame(frame)
    if not is_row(thing, len(frame.heights)):
        return False
    end = tidied(thing, frame.prime)
    if len({frame.heights[place] for place in end}) > 1:
        return False
    if any([_end_of(frame.prime, end, row) for row in frame.step.values()]):
        return False
    table = _end_table(frame, end)
    # No row but {} has the end 0 with all places exactly if the rows of the table are free.
    return _turns_about(frame, table) and len(basis_of(table, frame.prime)) == len(table)


def _need_end(frame, end):
    # What is no frame is told ahead of what is no end.
    if not is_end(frame, end):
        raise BadEnd("an end of the frame is wanted")


def is_fit(frame, end, choice):
    """Whether undo of the choice goes over from one side to the other in the ends of products."""
    _need_end(frame, end)
    _, _, undo = tidied_choice(frame, choice)
    for a, height in enumerate(frame.heights):
        for b in range(len(frame.heights)):
            ahead = _end_of_both(frame, end, undo[a], {b: 1})
            behind = _end_of_both(frame, end, {a: 1}, undo[b])
            if (ahead - sign(height) * behind) % frame.prime:
                return False
    return True


def _less_by_ends(frame, end, rows, mates, others, times):
    """Each row less that sum of multiples of mates whose ends with others are times those of the row."""
    ends = [{k: _end_of_both(frame, end, mate, other) for k, other in enumerate(others)} for mate in mates]
    basis = basis_of(tagged(ends, len(others)), frame.prime)
    found = []
    for row in rows:
        aim = {k: -times * _end_of_both(frame, end, row, other) for k, other in enumerate(others)}
        total = dict(row)
        add_to(total, led(mates, one_sum(basis, len(others), aim, frame.prime), frame.prime), 1)
        found.append(tidied(total, frame.prime))
    return found


def fit_choice(frame, end):
    """A choice that is fit."""
    _need_end(frame, end)
    if frame.prime == 2:
        raise NotOdd("a prime other than 2 is wanted")
    left, made, roots = split_by_steps(frame.prime, frame.heights, steps_of(frame))
    # A choice is fit exactly if the roots have the end 0 with the rows left and with one another. They may be
    # changed by rows that are left or made. Each pair of roots is met from both sides, so half is taken off.
    roots = _less_by_ends(frame, end, roots, left, left, 1)
    roots = _less_by_ends(frame, end, roots, made, roots, inverse(2, frame.prime))
    return choice_of_split(frame.prime, left, made, roots)


def _of_two(frame, one, other):
    # The product of two as many products tell it.
    signed = {place: sign(frame.heights[place]) * number for place, number in one.items()}
    return product_sum(frame.product, signed, other)


def _product_by_trees(frame, choice, word):
    # Only the parts of this one word are gone through: all words may be far too many.
    within, onto, undo = choice
    into = {(k, k + 1): within[left] for k, left in enumerate(word)}
    both = {}
    for length in range(2, len(word) + 1):
        for start in range(len(word) - length + 1):
            both = {}
            for cut in range(start + 1, start + length):
                add_to(both, _of_two(frame, into[start, cut], into[cut, start + length]), 1)
            into[start, start + length] = led(undo, both, frame.prime)
    return led(onto, both, frame.prime)


def end_number(frame, end, choice, word):
    """The end of the product of all leftovers of the word but the last one, and of that one."""
    _need_end(frame, end)
    tidy = tidied_choice(frame, choice)
    within = tidy[0]
    if not is_word(word, len(within), 3, 7):
        raise BadWord("a tuple of 3 to 7 leftovers is wanted")
    ahead = led(within, _product_by_trees(frame, tidy, word[:-1]), frame.prime)
    return _end_of(frame.prime, end, _of_two(frame, ahead, within[word[-1]]))
