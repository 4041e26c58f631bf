"""Books of many products moved by rows for the words of their places."""

from leftproducts.errors import BadLead
from leftproducts.leads import Lead, firsts_back
from leftproducts.many import Many, need_heights, need_many
from leftproducts.sums import added_tables, tidied_table
from leftproducts.tables import cut_sums, is_table, of_length, put_in


def moved_products(prime, heights, products, table, back, most):
    """The one table of products to which the rows of table lead products of words of up to most places of
    these heights; back are the rows back of those of one place."""
    letters = {(place,): row for place, row in enumerate(back)}
    wanted = put_in(prime, heights, products, table, 1, most)
    found = {}
    # The rule of a lead tells the product of a word of rows of one place by the shorter products.
    for length in range(1, most + 1):
        told = cut_sums(prime, table, found, length, length)
        rest = added_tables(of_length(wanted, length), told, -1, prime)
        found.update(cut_sums(prime, letters, rest, length, length))
    return found


def moved_many(many, heights, rows):
    """The lead with these rows from many to the one book with these heights to which they lead it."""
    need_many(many)
    need_heights(heights)
    prime = many.prime
    if not is_table(rows, prime, many.heights, heights, (1, many.most), 0):
        raise BadLead("rows")
    table = tidied_table(rows, prime)
    back = firsts_back(prime, table, len(many.heights), len(heights))
    products = moved_products(prime, many.heights, many.products, table, back, many.most)
    return Lead(many, Many(prime, heights, many.most, products), table)
