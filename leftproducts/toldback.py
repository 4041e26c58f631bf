"""Ladders told back: the rules of a book of letters by its many products, and what the lengths of a ladder tell."""

from leftproducts.bars import ladder_counts
from leftproducts.errors import BadLengths
from leftproducts.judging import is_number, need_number
from leftproducts.letterbooks import LetterBook, need_book
from leftproducts.many import need_many


def _keeps_lengths(many, lengths):
    for word, row in many.products.items():
        length = sum([lengths[place] for place in word])
        if not all([lengths[place] == length for place in row]):
            return False
    return True


def _are_lengths(many, thing):
    if not isinstance(thing, tuple) or len(thing) != len(many.heights):
        return False
    if not all([is_number(length) and length >= 1 for length in thing]):
        return False
    if not all([length == 1 for height, length in zip(many.heights, thing) if height == 1]):
        return False
    return _keeps_lengths(many, thing)


def _letters_of(many):
    # The places of height 1, and their numbers among these.
    places = [place for place, height in enumerate(many.heights) if height == 1]
    return {place: letter for letter, place in enumerate(places)}


def _rule_at(many, letters, place):
    # Letters have the length 1 and products keep lengths: each text has as many letters as the place's length tells.
    rule = {}
    for word, row in many.products.items():
        if place in row and all([one in letters for one in word]):
            rule[tuple([letters[one] for one in word])] = row[place]
    return rule


def told_rules(many, lengths):
    """The sum of texts that the products of letters tell at each place of height 2 with a length from 2 to most."""
    need_many(many)
    if not _are_lengths(many, lengths):
        raise BadLengths("a length for each place that all products keep is wanted")
    letters = _letters_of(many)
    found = []
    for place, height in enumerate(many.heights):
        if height == 2 and 2 <= lengths[place] <= many.most:
            found.append(_rule_at(many, letters, place))
    return tuple(found)


def told_book(many, lengths):
    """The book of letters whose rules the many products tell."""
    rules = told_rules(many, lengths)
    return LetterBook(many.prime, len(_letters_of(many)), many.most, rules)


def is_level(book):
    """Whether all leftovers of the book have their floor as length."""
    return all([floor == length for floor, length in ladder_counts(book)])


def stands_by_turns(book, length):
    """Whether each leftover of floor 2 * k has the length k * length, of floor 2 * k + 1 one letter more."""
    need_book(book)
    need_number(length, 3, book.most, "length")
    return all([letters == floor // 2 * length + floor % 2 for floor, letters in ladder_counts(book)])
