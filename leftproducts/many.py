"""Books of many products: products of words of places, up to a length."""

from leftproducts.errors import BadMany, BadRow, BadWord, NotFrame
from leftproducts.frames import Frame, need_frame
from leftproducts.judging import are_heights, is_list, is_row, is_word, need_number, need_prime
from leftproducts.sums import add_to, sign, tidied, tidied_table
from leftproducts.tables import is_table, put_in


def need_heights(heights):
    """Raises BadMany("heights") unless heights is a list as a book wants it."""
    if not are_heights(heights, -64, 64):
        raise BadMany("heights")


class Many:
    """Places with heights, and products of words of 1 to most of them that keep the rule of many."""

    def __init__(self, prime, heights, most, products):
        need_prime(prime)
        need_heights(heights)
        need_number(most, 1, 8, "most")
        if not is_table(products, prime, heights, heights, (1, most), 1):
            raise BadMany("products")
        self.prime = prime
        self.heights = tuple(heights)
        self.most = most
        self.products = tidied_table(products, prime)
        if put_in(prime, heights, self.products, self.products, 1, most):
            raise BadMany("rule")

    def __eq__(self, other):
        return (isinstance(other, Many) and self.prime == other.prime and self.heights == other.heights
                and self.most == other.most and self.products == other.products)


def need_many(many):
    """Raises BadMany(None) unless many is a Many."""
    if not isinstance(many, Many):
        raise BadMany(None)


def rule_rows(prime, heights, products, length):
    """What the rule of many leaves of the words of just length places."""
    need_prime(prime)
    need_heights(heights)
    need_number(length, 1, 15, "length")
    if not is_table(products, prime, heights, heights, (1, length), 1):
        raise BadMany("products")
    table = tidied_table(products, prime)
    return put_in(prime, heights, table, table, length, length)


def product_row(many, word):
    """The product of a word."""
    need_many(many)
    if not is_word(word, len(many.heights), 1, many.most):
        raise BadWord("a word of the places is wanted")
    return dict(many.products.get(word, {}))


def rows_product(many, rows):
    """The sum of the products of all words with a place of each row, times their numbers."""
    need_many(many)
    if not is_list(rows) or not 1 <= len(rows) <= many.most:
        raise BadRow("a list of 1 to most rows is wanted")
    if not all([is_row(row, len(many.heights)) for row in rows]):
        raise BadRow("rows of the places are wanted")
    total = {}
    for word, row in many.products.items():
        if len(word) == len(rows):
            times = 1
            for place, one in zip(word, rows):
                times = times * one.get(place, 0) % many.prime
            add_to(total, row, times)
    return tidied(total, many.prime)


def ends(many):
    """Whether the rule of many goes on for words of any length without more products."""
    need_many(many)
    for length in range(many.most + 1, 2 * many.most):
        if put_in(many.prime, many.heights, many.products, many.products, length, length):
            return False
    return True


def cut_many(many, length):
    """The book of the words of up to length places."""
    need_many(many)
    need_number(length, 1, many.most, "length")
    products = {word: row for word, row in many.products.items() if len(word) <= length}
    return Many(many.prime, many.heights, length, products)


def many_of(frame, most):
    """The book with the frame's step and products of two."""
    need_frame(frame)
    need_number(most, 1, 8, "most")
    products = {(place,): row for place, row in frame.step.items()}
    if most > 1:
        for (a, b), row in frame.product.items():
            times = sign(frame.heights[a])
            products[a, b] = {place: times * number for place, number in row.items()}
    return Many(frame.prime, frame.heights, most, products)


def frame_of(many):
    """The frame that many_of leads to this book."""
    need_many(many)
    if many.most == 1 or any([len(word) > 2 for word in many.products]) or not ends(many):
        raise NotFrame("products of one and two alone, for words of any length, are wanted")
    product, steps = {}, {}
    for word, row in many.products.items():
        if len(word) == 1:
            steps[word[0]] = row
        else:
            times = sign(many.heights[word[0]])
            product[word] = {place: times * number for place, number in row.items()}
    return Frame(many.prime, many.heights, product, steps)
