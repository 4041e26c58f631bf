"""The big row of all words: its one step, by which products are told."""

from leftproducts.errors import BadMany, BadWords, TooMany
from leftproducts.judging import is_number, is_word, need_number, need_prime
from leftproducts.many import need_heights
from leftproducts.sums import add_to, sign, tidied, tidied_table
from leftproducts.tables import is_table, turn_of


def is_sum_of_words(thing, places, most):
    """Whether any value is a sum of words of 1 to most of so many places."""
    if not isinstance(thing, dict):
        return False
    return all([is_word(word, places, 1, most) and is_number(thing[word]) for word in thing])


def _is_table_of_words(thing, places, most):
    if not isinstance(thing, dict):
        return False
    return all([is_word(word, places, 1, most) and is_sum_of_words(thing[word], places, most) for word in thing])


def need_few_words(places, most, limit):
    """Raises TooMany(limit) if there are more words of 1 to most of so many places."""
    power, total = 1, 0
    for _ in range(most):
        power = power * places
        total += power
    if total > limit:
        raise TooMany(limit)


def all_words(places, most):
    """All words of 1 to most of so many places, shorter ones first, then ascending."""
    found, last = [], [()]
    for _ in range(most):
        last = [word + (place,) for word in last for place in range(places)]
        found = found + last
    return found


def big_step(prime, heights, products, word):
    """The big step of one word."""
    total = {}
    for k in range(len(word)):
        times = sign(turn_of(heights, word[:k]))
        for j in range(k + 1, len(word) + 1):
            row = products.get(word[k:j], {})
            add_to(total, {word[:k] + (place,) + word[j:]: number for place, number in row.items()}, times)
    return tidied(total, prime)


def _need_frame_of_words(prime, heights, most):
    need_prime(prime)
    need_heights(heights)
    need_number(most, 1, 8, "most")


def big_table(prime, heights, most, products):
    """The table of the big steps of all words of 1 to most places."""
    _need_frame_of_words(prime, heights, most)
    if not is_table(products, prime, heights, heights, (1, most), 1):
        raise BadMany("products")
    need_few_words(len(heights), most, 5000)
    steps = {word: big_step(prime, heights, products, word) for word in all_words(len(heights), most)}
    return tidied_table(steps, prime)


def _led_words(table, row):
    # Words that are lacking in the table are led to nothing.
    total = {}
    for word, number in row.items():
        add_to(total, table.get(word, {}), number)
    return total


def twice_left(prime, heights, most, table):
    """What the table of words makes of each word if it is done twice."""
    _need_frame_of_words(prime, heights, most)
    if not _is_table_of_words(table, len(heights), most):
        raise BadWords("a table of words of the places is wanted")
    return tidied_table({word: _led_words(table, table[word]) for word in table}, prime)


def _first_products(table):
    # A word of one place is in a big step by the product of the whole word alone.
    return {word: {other[0]: number for other, number in row.items() if len(other) == 1}
            for word, row in table.items()}


def _lacks_none(prime, heights, most, products, table):
    # Words of which the table tells nothing are looked at, if a word with a product is in them. There may be far
    # more of them than can be gone through, but then the first ones tell it.
    begun = list(products)
    seen = {word: True for word in begun}
    while begun:
        grown = []
        for word in begun:
            if word not in table and big_step(prime, heights, products, word):
                return False
            if len(word) < most:
                grown.extend([(place,) + word for place in range(len(heights))])
                grown.extend([word + (place,) for place in range(len(heights))])
        begun = []
        for word in grown:
            if word not in seen:
                seen[word] = True
                begun.append(word)
    return True


def _products_of(prime, heights, most, thing):
    # None unless thing is the table of the big steps of some products.
    if not _is_table_of_words(thing, len(heights), most):
        return None
    table = tidied_table(thing, prime)
    products = tidied_table(_first_products(table), prime)
    if not is_table(products, prime, heights, heights, (1, most), 1):
        return None
    if not all([big_step(prime, heights, products, word) == table[word] for word in table]):
        return None
    return products if _lacks_none(prime, heights, most, products, table) else None


def is_big(prime, heights, most, thing):
    """Whether any value is the table of the big steps of some products."""
    _need_frame_of_words(prime, heights, most)
    return _products_of(prime, heights, most, thing) is not None


def products_told(prime, heights, most, table):
    """The products of whose big steps this is the table."""
    _need_frame_of_words(prime, heights, most)
    products = _products_of(prime, heights, most, table)
    if products is None:
        raise BadWords("a table of big steps is wanted")
    return products
