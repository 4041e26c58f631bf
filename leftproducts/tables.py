"""Tables that lead words of places to rows: judged, put into one another, cut into words."""

from leftproducts.judging import is_row, is_word
from leftproducts.sums import add_to, sign, tidied, tidied_table


def turn_of(heights, word):
    """The sum of the turns of the places of the word."""
    return sum([heights[place] - 1 for place in word])


def is_table(thing, prime, heights, aims, lengths, more):
    """Whether thing leads words of places of these heights, from the first to the second of the two lengths,
    to rows of places with the heights aims, each place of a row with more turn than its word."""
    if not isinstance(thing, dict):
        return False
    least, most = lengths
    for word in thing:
        if not is_word(word, len(heights), least, most) or not is_row(thing[word], len(aims)):
            return False
        turn = turn_of(heights, word) + more
        if not all([aims[place] - 1 == turn for place in tidied(thing[word], prime)]):
            return False
    return True


def of_length(table, length):
    """The part of the table for words of just so many places."""
    return {word: row for word, row in table.items() if len(word) == length}


def ways_to(table):
    """For each place the pairs of a word whose row has it, and the number it has there; shorter ones first."""
    ways = {}
    for word in sorted(table, key=len):
        for place in table[word]:
            ways.setdefault(place, []).append((word, table[word][place]))
    return ways


def put_in(prime, heights, inner, outer, least, most, more=1):
    """For words of least to most places the sum, over all ways to write them as u v x, of outer of
    u, (inner of v), x, with the sign of going past u; v is empty only where inner has a row for (). The
    heights are those of inner's places, and inner's rows have so much more turn than its words."""
    ways = ways_to(inner)
    found = {}
    for word in outer:
        for k in range(len(word)):
            times = sign(more * turn_of(heights, word[:k]))
            for piece, number in ways.get(word[k], []):
                if len(word) - 1 + len(piece) > most:
                    break
                if len(word) - 1 + len(piece) >= least:
                    whole = word[:k] + piece + word[k + 1:]
                    add_to(found.setdefault(whole, {}), outer[word], times * number)
    return tidied_table(found, prime)


def _grown(prime, ways, cuts, most):
    # Puts a word of inner ahead for the first place that is still to come, in each cut.
    grown = {}
    for (start, rest), row in cuts.items():
        for piece, number in ways.get(rest[0], []):
            if len(start) + len(piece) + len(rest) - 1 > most:
                break
            add_to(grown.setdefault((start + piece, rest[1:]), {}), row, number)
    return tidied_table(grown, prime)


def cut_sums(prime, inner, outer, least, most):
    """For words of least to most places the sum, over all ways to cut them into words, not empty, of
    outer of the words of places of inner's rows of these, times their numbers."""
    ways = ways_to(inner)
    found = {}
    # A cut is a pair: the words put so far, behind one another, and the places of outer's
    # word that are still to come; what comes from several sides is put together at once.
    cuts = {((), word): row for word, row in outer.items()}
    while cuts:
        grown = _grown(prime, ways, cuts, most)
        for (start, rest), row in grown.items():
            if not rest and least <= len(start):
                add_to(found.setdefault(start, {}), row, 1)
        cuts = {cut: row for cut, row in grown.items() if cut[1]}
    return tidied_table(found, prime)
