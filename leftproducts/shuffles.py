"""Shuffles of two words, and the books whose products of them are nothing."""

from leftproducts.errors import BadWord
from leftproducts.judging import is_word
from leftproducts.many import need_heights, need_many
from leftproducts.sums import add_to, sign, tidied_table
from leftproducts.tables import turn_of


def _need_word(heights, word):
    if not is_word(word, len(heights), 0, 8):
        raise BadWord("a tuple of 0 to 8 places is wanted")


def _put_behind_all(total, words, place, times):
    add_to(total, {word + (place,): number for word, number in words.items()}, times)


def shuffles(heights, one, other):
    """The sum of all words in which the places of both stand, those of each in their sequence."""
    need_heights(heights)
    _need_word(heights, one)
    _need_word(heights, other)
    # told[j] are the shuffles of what is put so far of one and of the first j places of other.
    told = [{other[:j]: 1} for j in range(len(other) + 1)]
    for place in one:
        grown = []
        for j in range(len(other) + 1):
            total = {}
            _put_behind_all(total, told[j], place, sign((heights[place] - 1) * turn_of(heights, other[:j])))
            if j:
                _put_behind_all(total, grown[j - 1], other[j - 1], 1)
            grown.append(total)
        told = grown
    return {word: told[-1][word] for word in sorted(told[-1]) if told[-1][word]}


def _ways_apart(heights, word):
    # All pairs of words, not empty, of which this word is a shuffle, with the sign that it has there.
    ways = [((), (), 1)]
    for place in word:
        grown = []
        for one, other, times in ways:
            past = sign((heights[place] - 1) * turn_of(heights, other))
            grown.append((one + (place,), other, times * past))
            grown.append((one, other + (place,), times))
        ways = grown
    return [way for way in ways if way[0] and way[1]]


def turns_round(many):
    """Whether the products of all shuffles of two words are nothing together."""
    need_many(many)
    found = {}
    for word, row in many.products.items():
        for one, other, times in _ways_apart(many.heights, word):
            add_to(found.setdefault((one, other), {}), row, times)
    return not tidied_table(found, many.prime)
