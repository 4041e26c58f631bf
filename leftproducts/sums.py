"""Sums of rows, modulo a prime."""


def sign(turn):
    """(-1) ** turn, for a turn below 0, too."""
    return -1 if turn % 2 else 1


def tidied(row, prime):
    """The same row, modulo the prime, ascending, without noughts."""
    return {place: row[place] % prime for place in sorted(row) if row[place] % prime}


def tidied_table(table, prime):
    """The same rows, each tidied, their keys ascending, without rows of noughts."""
    rows = {key: tidied(table[key], prime) for key in sorted(table)}
    return {key: rows[key] for key in rows if rows[key]}


def added_tables(one, other, times, prime):
    """The rows of one and times those of other, key by key, tidied."""
    total = {key: dict(one[key]) for key in one}
    for key in other:
        add_to(total.setdefault(key, {}), other[key], times)
    return tidied_table(total, prime)


def add_to(total, row, times):
    """Adds times row to total, in place."""
    for place in row:
        total[place] = total.get(place, 0) + times * row[place]


def led(rows, row, prime):
    """The sum of those of rows that stand at the places of row, times its numbers."""
    total = {}
    for place in row:
        add_to(total, rows[place], row[place])
    return tidied(total, prime)


def product_sum(product, one, other):
    """The sum of all products of places of one and of other, times their numbers; not tidied."""
    total = {}
    for a in one:
        for b in other:
            if (a, b) in product:
                add_to(total, product[a, b], one[a] * other[b])
    return total
