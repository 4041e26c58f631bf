"""Rows that are free of one another: a basis of tidy rows, and what is told by it.

A basis is a dict from first places to rows: each row has 1 at its first (least)
place, and none of the others has a number there. A row may carry a tag, a number
at a place beyond those that count: it tells of which rows a sum was made.
"""

from leftproducts.sums import add_to, tidied


def inverse(number, prime):
    """The number that number is multiplied by to 1, modulo the prime."""
    power = 1
    for _ in range(prime - 2):
        power = power * number % prime
    return power


def less_basis(basis, row, prime):
    """row less multiples of the basis, without numbers at its first places."""
    rest = {place: row[place] for place in row}
    for place in row:
        if place in basis:
            add_to(rest, basis[place], -row[place])
    return tidied(rest, prime)


def _take_off(row, fresh, times, prime):
    # In place, as far as fresh reaches: rows may be far longer.
    for place in fresh:
        number = (row.get(place, 0) - times * fresh[place]) % prime
        if number:
            row[place] = number
        else:
            del row[place]


def put_to_basis(basis, row, prime):
    """Puts what row has beyond the basis to it, and returns that: {} if it has nothing."""
    rest = less_basis(basis, row, prime)
    if not rest:
        return rest
    first = min(rest)
    over = inverse(rest[first], prime)
    fresh = {place: rest[place] * over % prime for place in rest}
    for other in list(basis):
        if first in basis[other]:
            _take_off(basis[other], fresh, basis[other][first], prime)
    basis[first] = fresh
    return rest


def basis_of(rows, prime):
    """A basis of the sums of multiples of rows."""
    basis = {}
    for row in rows:
        put_to_basis(basis, row, prime)
    return basis


def tagged(rows, size):
    """The rows of so many places, each with 1 at a place of its own behind these."""
    return [{**row, size + k: 1} for k, row in enumerate(rows)]


def ahead_of(row, size):
    """The part of a tagged row that counts."""
    return {place: row[place] for place in row if place < size}


def tags_of(row, size):
    """The tags of a row, numbered from 0."""
    return {place - size: row[place] for place in row if place >= size}


def one_sum(basis, size, aim, prime):
    """The numbers by which the rows that basis was made of, tagged, are taken to be aim together; None if
    there are none."""
    rest = less_basis(basis, aim, prime)
    if any([place < size for place in rest]):
        return None
    return tidied({place - size: -rest[place] for place in rest}, prime)


def nothing_sums(basis, size):
    """Rows of numbers by which the rows that basis was made of, tagged, are nothing together; all others
    are sums of multiples of these."""
    return [tags_of(basis[first], size) for first in sorted(basis) if first >= size]


def all_sums(start, rows, prime):
    """start and all sums of multiples of the rows, which are free of one another, together."""
    found = [start]
    for row in rows:
        grown = []
        for one in found:
            for times in range(prime):
                total = dict(one)
                add_to(total, row, times)
                grown.append(tidied(total, prime))
        found = grown
    return found


def undone_rows(rows, size, prime):
    """The rows back, one for each of so many places; None unless rows are free and as many."""
    if len(rows) != size:
        return None
    basis = basis_of(tagged(rows, size), prime)
    if any([first >= size for first in basis]):
        return None
    return [tags_of(basis[place], size) for place in range(size)]
