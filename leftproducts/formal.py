"""Which many products of a least book can be done away with."""

from leftproducts.changes import made_by
from leftproducts.errors import BadNumber
from leftproducts.judging import is_number, need_few
from leftproducts.leads import Lead, plain_lead, plain_rows, put_behind
from leftproducts.leasts import need_least
from leftproducts.many import Many, need_many
from leftproducts.moves import moved_many
from leftproducts.tables import of_length


def _check(many):
    need_least(many)
    if many.most > many.prime + 2:
        raise BadNumber("most")
    need_few(len(many.heights), many.most, 3000)


def _done_away(many):
    lead = plain_lead(many)
    for length in range(3, many.most):
        book = lead.other
        part = of_length(book.products, length)
        if part:
            change = made_by(book, part, 1)
            if change is None:
                return length, lead
            lead = put_behind(lead, moved_many(book, book.heights, {**plain_rows(book), **change}))
    return None, lead


def first_place(many):
    """The least length from 3 on, below most, whose products cannot be done away with; None without one."""
    _check(many)
    first, _ = _done_away(many)
    return first


def is_formal(many):
    """Whether there is no first place."""
    return first_place(many) is None


def done_away(many):
    """The first place, and a lead to a book without the products of 3 places and more ahead of it."""
    _check(many)
    return _done_away(many)


def _power(number, times, prime):
    # Numbers but 0 come to 1 after prime - 1 factors, so times may be below 0.
    total = 1
    for _ in range(times % (prime - 1)):
        total = total * number % prime
    return total


def scaled_lead(many, unit):
    """The lead to the book whose products of n places are those of many times unit ** (n - 2)."""
    need_many(many)
    if not is_number(unit) or unit % many.prime == 0:
        raise BadNumber("unit")
    prime = many.prime
    products = {}
    for word, row in many.products.items():
        times = _power(unit, len(word) - 2, prime)
        products[word] = {place: times * number for place, number in row.items()}
    rows = {(place,): {place: _power(unit, -height, prime)} for place, height in enumerate(many.heights)}
    return Lead(many, Many(prime, many.heights, many.most, products), rows)
