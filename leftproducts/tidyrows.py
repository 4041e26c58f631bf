"""Tidy rows: each has 1 at its first place, and none of the others has a number there."""

from leftproducts.errors import BadTable
from leftproducts.judging import is_between, is_list, is_number, need_prime
from leftproducts.solving import basis_of, less_basis
from leftproducts.sums import tidied


def _is_plain_row(thing):
    # A row of whatever many places.
    if not isinstance(thing, dict):
        return False
    return all([is_number(place) and place >= 0 and is_number(thing[place]) for place in thing])


def tidy_rows(prime, rows):
    """The tidy rows whose sums of multiples are those of rows."""
    need_prime(prime)
    if not is_list(rows) or not all([_is_plain_row(row) for row in rows]):
        raise BadTable("a list of rows is wanted")
    basis = basis_of(rows, prime)
    return tuple([tidied(basis[first], prime) for first in sorted(basis)])


def _are_tidy(thing, prime):
    if not isinstance(thing, tuple) or not all([_is_plain_row(row) and row for row in thing]):
        return False
    if not all([is_between(row[place], 1, prime - 1) for row in thing for place in row]):
        return False
    firsts = [min(row) for row in thing]
    if any([row[first] != 1 for row, first in zip(thing, firsts)]):
        return False
    ascending = all([firsts[k] < firsts[k + 1] for k in range(len(firsts) - 1)])
    # As they ascend each first place is met in its own row alone if it is met just once.
    return ascending and all([len([row for row in thing if first in row]) == 1 for first in firsts])


def row_less(prime, tidy, row):
    """row less multiples of the tidy rows, without numbers at their first places."""
    need_prime(prime)
    if not _are_tidy(tidy, prime):
        raise BadTable("a tuple of tidy rows is wanted")
    if not _is_plain_row(row):
        raise BadTable("a row is wanted")
    return less_basis({min(one): one for one in tidy}, row, prime)
