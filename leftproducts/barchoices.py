"""Choices of a ladder: sums of bars that are left, and the two ways that lead to them."""

from leftproducts.bars import bars, counts_left, is_bar, is_sum_of_bars, length_of, numbered_steps
from leftproducts.choices import choice_of_steps, keeps_choice_rules
from leftproducts.judging import is_row
from leftproducts.sums import tidied


def pairs_left(counts):
    """The pairs of a floor and a length of all leftovers."""
    return [pair for pair in counts for _ in range(counts[pair])]


def _pair_of(bar):
    return len(bar), length_of(bar)


def _named(listed, row):
    return {listed[k]: number for k, number in row.items()}


def bar_choice(book):
    """A bar choice of the book."""
    listed = bars(book)
    floors = [len(bar) for bar in listed]
    within, onto, undo = choice_of_steps(book.prime, floors, numbered_steps(book, listed))
    order = sorted([(bar, k) for k, bar in enumerate(listed)])
    named = [tidied(_named(listed, row), book.prime) for row in within]
    return (tuple(named), {bar: onto[k] for bar, k in order},
            {bar: tidied(_named(listed, undo[k]), book.prime) for bar, k in order})


def _is_triple(book, thing, listed, many):
    if not isinstance(thing, tuple) or len(thing) != 3:
        return False
    within, onto, undo = thing
    if not isinstance(within, tuple) or len(within) != many:
        return False
    if not all([is_sum_of_bars(book, row) for row in within]):
        return False
    for table in (onto, undo):
        if not isinstance(table, dict) or len(table) != len(listed) or not all([is_bar(book, bar) for bar in table]):
            return False
    if not all([is_row(row, many) for row in onto.values()]):
        return False
    return all([is_sum_of_bars(book, row) for row in undo.values()])


def _fits_pairs(listed, pairs, within, onto, undo):
    # The leftovers of the pair (1, 1) are the letters themselves.
    for k, row in enumerate(within):
        if not all([_pair_of(listed[bar]) == pairs[k] for bar in row]):
            return False
        if pairs[k] == (1, 1) and row != {k: 1}:
            return False
    for k, bar in enumerate(listed):
        floor, length = _pair_of(bar)
        if not all([pairs[left] == (floor, length) for left in onto[k]]):
            return False
        if not all([_pair_of(listed[low]) == (floor - 1, length) for low in undo[k]]):
            return False
    return True


def numbered_choice(book, thing, listed):
    """The choice by the indexes of the listed bars, and the pairs of its leftovers; None unless it is one."""
    steps = numbered_steps(book, listed)
    pairs = pairs_left(counts_left(book, listed, steps))
    if not _is_triple(book, thing, listed, len(pairs)):
        return None
    at = {bar: k for k, bar in enumerate(listed)}
    prime = book.prime
    within = tuple([tidied({at[bar]: number for bar, number in row.items()}, prime) for row in thing[0]])
    onto = tuple([tidied(thing[1][bar], prime) for bar in listed])
    undo = tuple([tidied({at[low]: number for low, number in thing[2][bar].items()}, prime) for bar in listed])
    if not _fits_pairs(listed, pairs, within, onto, undo):
        return None
    if not keeps_choice_rules(prime, steps, within, onto, undo):
        return None
    return (within, onto, undo), pairs


def is_bar_choice(book, thing):
    """Whether any value is a bar choice of the book."""
    return numbered_choice(book, thing, bars(book)) is not None
