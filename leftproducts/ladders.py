"""Ladders: what the step of bars leaves of a book of letters, with all its products."""

from leftproducts.barchoices import numbered_choice, pairs_left
from leftproducts.bars import bars, ladder_counts
from leftproducts.errors import BadChoice, TooMany
from leftproducts.many import Many
from leftproducts.sums import sign
from leftproducts.transfers import trees


def ladder_lengths(book):
    """The lengths of the leftovers."""
    return tuple([length for _, length in pairs_left(ladder_counts(book))])


def _bar_products(listed):
    # Each bar is the product of what stands ahead and behind at each of its gaps.
    at = {bar: k for k, bar in enumerate(listed)}
    return {(at[bar[:k]], at[bar[k:]]): {at[bar]: sign(k)} for bar in listed for k in range(1, len(bar))}


def ladder_many(book, choice):
    """The book of many products of the leftovers."""
    listed = bars(book)
    told = numbered_choice(book, choice, listed)
    if told is None:
        raise BadChoice("a bar choice of the book is wanted")
    rows, pairs = told
    if len(pairs) > 32:
        raise TooMany(32)
    products, _ = trees(book.prime, _bar_products(listed), rows, book.most)
    return Many(book.prime, [floor for floor, _ in pairs], book.most, products)
