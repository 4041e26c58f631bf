"""Bars of a book of letters: rows of rest texts, their step and their product, and what the step leaves."""

from leftproducts.errors import BadRow, TooMany
from leftproducts.judging import is_number
from leftproducts.leftovers import sizes_left
from leftproducts.letterbooks import is_rest_text, need_book, rest_of, texts_left
from leftproducts.sums import add_to, led, sign, tidied


def length_of(bar):
    """How many letters a bar has."""
    return sum([len(text) for text in bar])


def is_bar(book, thing):
    """Whether any value is a bar of the book."""
    if not isinstance(thing, tuple) or not thing or not all([is_rest_text(book, text) for text in thing]):
        return False
    return length_of(thing) <= book.most


def is_sum_of_bars(book, thing):
    """Whether any value is a sum of bars of the book."""
    if not isinstance(thing, dict):
        return False
    return all([is_bar(book, bar) and is_number(thing[bar]) for bar in thing])


def _need_sum(book, row):
    if not is_sum_of_bars(book, row):
        raise BadRow("a sum of bars of the book is wanted")


def _texts_by_length(book):
    return [texts_left(book, length) for length in range(book.most + 1)]


def _need_few_bars(texts):
    # They are counted by their first texts: there may be far more than are let.
    counts = [1]
    for length in range(1, len(texts)):
        counts.append(sum([len(texts[k]) * counts[length - k] for k in range(1, length + 1)]))
    if sum(counts) - 1 > 700:
        raise TooMany(700)


def bars(book):
    """All bars: those of less length first, then those of less floor, then ascending."""
    need_book(book)
    texts = _texts_by_length(book)
    _need_few_bars(texts)
    found = [[()]]
    for length in range(1, book.most + 1):
        longer = [(text,) + bar for k in range(1, length + 1) for text in texts[k] for bar in found[length - k]]
        found.append(sorted(longer, key=lambda bar: (len(bar), bar)))
    return [bar for level in found[1:] for bar in level]


def _ways_apart(book):
    # For each rest text the pairs of rest texts that put behind one another have it in their rest.
    texts = _texts_by_length(book)
    ways = {}
    for length in range(2, book.most + 1):
        for k in range(1, length):
            for one in texts[k]:
                for other in texts[length - k]:
                    for text, number in rest_of(book, {one + other: 1}).items():
                        ways.setdefault(text, []).append((one, other, number))
    return ways


def _step_of(ways, bar, prime):
    total = {}
    for k, text in enumerate(bar):
        for one, other, number in ways.get(text, []):
            add_to(total, {bar[:k] + (one, other) + bar[k + 1:]: number}, sign(k))
    return tidied(total, prime)


def bar_step(book, row):
    """The step of a sum of bars."""
    need_book(book)
    _need_sum(book, row)
    ways = _ways_apart(book)
    return led({bar: _step_of(ways, bar, book.prime) for bar in row}, row, book.prime)


def bar_product(book, one, other):
    """The product of two sums of bars: the texts of one ahead of those of the other one."""
    need_book(book)
    _need_sum(book, one)
    _need_sum(book, other)
    total = {}
    for left, number in one.items():
        for right, times in other.items():
            if length_of(left) + length_of(right) <= book.most:
                add_to(total, {left + right: number}, times)
    return tidied(total, book.prime)


def numbered_steps(book, listed):
    """The steps of the listed bars, as rows of their indexes."""
    ways = _ways_apart(book)
    at = {bar: k for k, bar in enumerate(listed)}
    rows = [_step_of(ways, bar, book.prime) for bar in listed]
    return [{at[bar]: number for bar, number in row.items()} for row in rows]


def counts_left(book, listed, steps):
    """ladder_counts, of the listed bars with these steps."""
    # A step leads one floor up and keeps the length: told by one number as heights are.
    levels = [8 * length_of(bar) + len(bar) for bar in listed]
    sizes = sizes_left(book.prime, levels, steps)
    pairs = sorted([(level % 8, level // 8) for level in sizes])
    return {(floor, length): sizes[8 * length + floor] for floor, length in pairs}


def ladder_counts(book):
    """How many sums of bars the step leaves of each pair of a floor and a length."""
    listed = bars(book)
    return counts_left(book, listed, numbered_steps(book, listed))
