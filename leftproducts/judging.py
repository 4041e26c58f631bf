"""Kinds of values: what counts as a number, a list, a row, a word."""

from leftproducts.errors import BadNumber, BadPrime, TooMany

PRIMES = (2, 3, 5, 7, 11, 13, 17, 19, 23, 29, 31)


def is_number(thing):
    """Whether thing is an int that is not a bool."""
    return isinstance(thing, int) and not isinstance(thing, bool)


def is_between(thing, least, most):
    """Whether thing is a number from least to most."""
    return is_number(thing) and least <= thing <= most


def is_list(thing):
    """Whether thing may stand where a list is spoken of."""
    return isinstance(thing, (list, tuple))


def is_row(thing, places):
    """Whether thing is a row of so many places, of whatever numbers."""
    if not isinstance(thing, dict):
        return False
    return all([is_between(place, 0, places - 1) and is_number(thing[place]) for place in thing])


def are_rows(thing, many, places):
    """Whether thing is a tuple of so many rows of so many places."""
    return isinstance(thing, tuple) and len(thing) == many and all([is_row(row, places) for row in thing])


def is_word(thing, places, least, most):
    """Whether thing is a tuple of least to most places."""
    if not isinstance(thing, tuple) or not least <= len(thing) <= most:
        return False
    return all([is_between(place, 0, places - 1) for place in thing])


def are_heights(thing, least, most):
    """Whether thing is a list of at most 32 numbers from least to most."""
    return is_list(thing) and len(thing) <= 32 and all([is_between(height, least, most) for height in thing])


def is_prime(thing):
    """Whether thing is a prime from 2 to 31."""
    return is_number(thing) and thing in PRIMES


def need_prime(prime):
    """Raises BadPrime unless prime is one from 2 to 31."""
    if not is_prime(prime):
        raise BadPrime("a prime from 2 to 31 is wanted")


def need_number(number, least, most, part):
    """Raises BadNumber(part) unless number is one from least to most."""
    if not is_between(number, least, most):
        raise BadNumber(part)


def need_any_number(number, part):
    """Raises BadNumber(part) unless number is one."""
    if not is_number(number):
        raise BadNumber(part)


def need_few(many, factors, limit):
    """Raises TooMany(limit) if many, as so many factors, is above limit."""
    power = 1
    for _ in range(factors):
        power = power * many
        # There may be far more factors than it takes.
        if power > limit:
            raise TooMany(limit)
