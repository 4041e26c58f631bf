"""What is left with all its products: a book of many products, and the leads to the frame and back."""

from leftproducts.choices import levels_of, tidied_choice
from leftproducts.judging import need_few, need_number
from leftproducts.leads import Lead
from leftproducts.many import Many, many_of
from leftproducts.sums import add_to, led, sign, tidied_table
from leftproducts.tables import cut_sums, put_in, turn_of, ways_to


def longer_ones(table, least):
    """The part of the table for words of least places and more."""
    return {word: row for word, row in table.items() if len(word) >= least}


def trees(prime, products, choice, most):
    """The pair (products, into) of the leftovers of a choice, for words of 2 and of 1 to most of them."""
    within, onto, undo = choice
    longer = longer_ones(products, 2)
    told = {}
    into = {(k,): row for k, row in enumerate(within)}
    for length in range(2, most + 1):
        both = cut_sums(prime, into, longer, length, length)
        for word, row in both.items():
            told[word] = led(onto, row, prime)
            into[word] = led(undo, row, prime)
    return told, into


def left_by_trees(many, choice):
    """The lead from the book of what a choice for the steps of many leaves to many."""
    told, into = trees(many.prime, many.products, choice, many.most)
    left = Many(many.prime, levels_of(many.heights, choice[0]), many.most, told)
    return Lead(left, many, into)


def _checked_choice(frame, choice, most):
    tidy = tidied_choice(frame, choice)
    need_number(most, 1, 8, "most")
    return tidy


def left_many(frame, choice, most):
    """The book of the leftovers."""
    tidy = _checked_choice(frame, choice, most)
    need_few(len(tidy[0]), most, 10000)
    book = many_of(frame, most)
    told, _ = trees(frame.prime, book.products, tidy, most)
    return Many(frame.prime, levels_of(frame.heights, tidy[0]), most, told)


def left_into(frame, choice, most):
    """The lead from the book of the leftovers to that of the frame."""
    tidy = _checked_choice(frame, choice, most)
    need_few(len(tidy[0]), most, 10000)
    return left_by_trees(many_of(frame, most), tidy)


def _at_spot(prime, heights, table, spot, ways, signed):
    # Each word of the table is told by all words whose place at the spot leads to its own.
    found = {}
    for word, row in table.items():
        times = sign(turn_of(heights, word[:spot])) if signed else 1
        for piece, number in ways.get(word[spot], []):
            whole = word[:spot] + piece + word[spot + 1:]
            add_to(found.setdefault(whole, {}), row, times * number)
    return tidied_table(found, prime)


def _once_over(prime, heights, table, length, choice):
    # What is told of words of this length is told of those from which going once over leads to them.
    within, onto, undo = choice
    there = ways_to({(place,): led(within, row, prime) for place, row in enumerate(onto)})
    lower = ways_to({(place,): row for place, row in enumerate(undo)})
    found = {}
    for spot in range(length):
        for word, row in _at_spot(prime, heights, table, spot, lower, True).items():
            add_to(found.setdefault(word, {}), row, 1)
        table = _at_spot(prime, heights, table, spot, there, False)
    return tidied_table(found, prime)


def left_onto(frame, choice, most):
    """The lead from the book of the frame to that of the leftovers."""
    tidy = _checked_choice(frame, choice, most)
    need_few(len(frame.heights), most, 10000)
    book = many_of(frame, most)
    pairs = longer_ones(book.products, 2)
    rows = {(place,): row for place, row in enumerate(tidy[1])}
    last = rows
    for length in range(2, most + 1):
        merged = put_in(frame.prime, frame.heights, pairs, last, length, length)
        last = _once_over(frame.prime, frame.heights, merged, length, tidy)
        rows = {**rows, **last}
    return Lead(book, left_many(frame, choice, most), rows)
