"""Leads: maps of many at once from one book of many products to another one."""

from leftproducts.errors import BadLead, NotUndone
from leftproducts.many import need_many
from leftproducts.solving import undone_rows
from leftproducts.sums import led, tidied_table
from leftproducts.tables import cut_sums, is_table, put_in


def need_fit(one, other):
    """Raises BadLead("fit") unless both books are of the same prime and most."""
    if one.prime != other.prime or one.most != other.most:
        raise BadLead("fit")


class Lead:
    """Rows of other for words of 1 to most places of one that go along with all products."""

    def __init__(self, one, other, rows):
        need_many(one)
        need_many(other)
        need_fit(one, other)
        if not is_table(rows, one.prime, one.heights, other.heights, (1, one.most), 0):
            raise BadLead("rows")
        self.one = one
        self.other = other
        self.rows = tidied_table(rows, one.prime)
        ahead = cut_sums(one.prime, self.rows, other.products, 1, one.most)
        if ahead != put_in(one.prime, one.heights, one.products, self.rows, 1, one.most):
            raise BadLead("rule")

    def __eq__(self, other):
        return (isinstance(other, Lead) and self.one == other.one and self.other == other.other
                and self.rows == other.rows)


def need_lead(lead):
    """Raises BadLead(None) unless lead is a Lead."""
    if not isinstance(lead, Lead):
        raise BadLead(None)


def plain_rows(many):
    """Each word of one place to this place."""
    return {(place,): {place: 1} for place in range(len(many.heights))}


def plain_lead(many):
    """The lead that leaves each place as it is."""
    need_many(many)
    return Lead(many, many, plain_rows(many))


def put_behind(first, second):
    """The lead that goes by first, then by second."""
    need_lead(first)
    need_lead(second)
    if first.other != second.one:
        raise BadLead("fit")
    rows = cut_sums(first.one.prime, first.rows, second.rows, 1, first.one.most)
    return Lead(first.one, second.other, rows)


def firsts_back(prime, rows, size, aims):
    """The rows back, one for each of so many aims, of the rows of words of one of so many places."""
    back = undone_rows([rows.get((place,), {}) for place in range(size)], aims, prime)
    if back is None:
        raise NotUndone("the rows of one place cannot be undone")
    return back


def undone_lead(lead):
    """The lead back."""
    need_lead(lead)
    prime = lead.one.prime
    back = firsts_back(prime, lead.rows, len(lead.one.heights), len(lead.other.heights))
    rows = {(place,): row for place, row in enumerate(back)}
    longer = {word: row for word, row in lead.rows.items() if len(word) > 1}
    # lead behind the lead back is nothing for words of two places and more: its row of
    # the longest word is told by those of the shorter ones.
    for length in range(2, lead.one.most + 1):
        told = cut_sums(prime, rows, longer, length, length)
        for word in told:
            rows[word] = led(back, {place: -number for place, number in told[word].items()}, prime)
    return Lead(lead.other, lead.one, rows)
