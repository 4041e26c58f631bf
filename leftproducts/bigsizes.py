"""What the big step leaves of sums of words, and how leads lead such sums."""

from leftproducts.bigrows import all_words, big_step, is_sum_of_words, need_few_words
from leftproducts.errors import BadWords
from leftproducts.judging import need_number
from leftproducts.leads import need_lead
from leftproducts.leftovers import sizes_left
from leftproducts.many import need_many
from leftproducts.sums import add_to, tidied
from leftproducts.tables import turn_of


def numbered_sizes(prime, heights, steps):
    """What is left by heights of anything that has heights and steps, both told as dicts by names."""
    at = {name: k for k, name in enumerate(heights)}
    rows = [{at[other]: number for other, number in steps[name].items()} for name in heights]
    return sizes_left(prime, list(heights.values()), rows)


def big_sizes(many, length):
    """What the big step leaves of the sums of words of 1 to length places, by turns."""
    need_many(many)
    need_number(length, 1, many.most, "length")
    need_few_words(len(many.heights), length, 2000)
    words = all_words(len(many.heights), length)
    turns = {word: turn_of(many.heights, word) for word in words}
    steps = {word: big_step(many.prime, many.heights, many.products, word) for word in words}
    return numbered_sizes(many.prime, turns, steps)


def _led_word(rows, word, prime):
    # For each beginning of the word the sum of words to which all its cuts lead.
    told = [{(): 1}]
    for end in range(1, len(word) + 1):
        total = {}
        for start in range(end):
            row = rows.get(word[start:end], {})
            for begun, times in told[start].items():
                add_to(total, {begun + (place,): number for place, number in row.items()}, times)
        told.append(tidied(total, prime))
    return told[-1]


def big_led(lead, words):
    """The sum of words to which the lead leads a sum of words."""
    need_lead(lead)
    one = lead.one
    if not is_sum_of_words(words, len(one.heights), one.most):
        raise BadWords("a sum of words of the lead's places is wanted")
    total = {}
    for word, number in words.items():
        add_to(total, _led_word(lead.rows, word, one.prime), number)
    return tidied(total, one.prime)
