"""Lines of words: their step cuts words in two and takes big steps, and what it leaves."""

from leftproducts.bigrows import all_words, big_step
from leftproducts.bigsizes import numbered_sizes
from leftproducts.errors import TooMany
from leftproducts.judging import need_number
from leftproducts.many import need_many
from leftproducts.sums import add_to, sign, tidied
from leftproducts.tables import turn_of


def _need_few_lines(places, length):
    # Each place but the first one is in the word of the one ahead or begins a word.
    power, total = places, 0
    for _ in range(length):
        total += power
        power = power * places * 2
    if total > 2000:
        raise TooMany(2000)


def _all_lines(places, length):
    last = [((place,),) for place in range(places)]
    found = list(last)
    for _ in range(length - 1):
        longer = [line[:-1] + (line[-1] + (place,),) for line in last for place in range(places)]
        last = longer + [line + ((place,),) for line in last for place in range(places)]
        found = found + last
    return found


def _height_of(heights, line):
    return sum([turn_of(heights, word) + 1 for word in line])


def _line_step(many, steps, line):
    # steps has the big step of each word.
    total = {}
    for k, word in enumerate(line):
        ahead, behind = line[:k], line[k + 1:]
        times = sign(_height_of(many.heights, ahead))
        add_to(total, {ahead + (other,) + behind: number for other, number in steps[word].items()}, -times)
        for cut in range(1, len(word)):
            turn = sign(turn_of(many.heights, word[:cut]))
            add_to(total, {ahead + (word[:cut], word[cut:]) + behind: turn}, times)
    return tidied(total, many.prime)


def line_sizes(many, length):
    """What the line step leaves of the sums of lines with 1 to length places in all, by heights."""
    need_many(many)
    need_number(length, 1, many.most, "length")
    places = len(many.heights)
    _need_few_lines(places, length)
    big = {word: big_step(many.prime, many.heights, many.products, word) for word in all_words(places, length)}
    lines = _all_lines(places, length)
    heights = {line: _height_of(many.heights, line) for line in lines}
    return numbered_sizes(many.prime, heights, {line: _line_step(many, big, line) for line in lines})
