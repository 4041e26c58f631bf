"""What points 80 to 83 tell of words and lines, worked out one by one."""

from itertools import combinations

from leftproducts.choices import made_choice
from leftproducts.frames import Frame
from leftproducts.many import Many, many_of
from leftproducts.transfers import left_many
from tests.books import moved, some_books
from tests.helpers import clean, letters_frame, mixed_frame, other_choice, plus, rank, sign, small_frames, turn
from tests.helpers import words_up_to


def step_of_word(prime, heights, products, word):
    """The big step of one word, as point 80 tells it."""
    total = {}
    for start in range(len(word)):
        for end in range(start + 1, len(word) + 1):
            for place, number in products.get(word[start:end], {}).items():
                led = word[:start] + (place,) + word[end:]
                plus(total, {led: number}, sign(turn(heights, word[:start])))
    return clean(total, prime)


def table_of(prime, heights, most, products):
    """All big steps, without words that have {}."""
    steps = {word: step_of_word(prime, heights, products, word) for word in words_up_to(len(heights), most)}
    return {word: steps[word] for word in sorted(steps) if steps[word]}


def led_by(table, row, prime):
    total = {}
    for word, number in row.items():
        plus(total, table.get(word, {}), number)
    return clean(total, prime)


def sizes_by_ranks(prime, levels, steps):
    """What is left, level by level: levels and steps are told by names, a step leads one level up."""
    found = {}
    for level in sorted(set(levels.values())):
        here = [name for name in levels if levels[name] == level]
        below = [name for name in levels if levels[name] == level - 1]
        kept = len(here) - rank([steps[name] for name in here], prime)
        left = kept - rank([steps[name] for name in below], prime)
        if left:
            found[level] = left
    return found


def all_cuts(word):
    """All lines with this word's places in this sequence."""
    found = []
    for many in range(len(word)):
        for spots in combinations(range(1, len(word)), many):
            ends = (0, *spots, len(word))
            found.append(tuple(word[ends[k]:ends[k + 1]] for k in range(len(ends) - 1)))
    return found


def line_height(heights, line):
    return sum(turn(heights, word) + 1 for word in line)


def line_step(many, line):
    """The line step, as point 82 tells it."""
    total = {}
    for k, word in enumerate(line):
        times = sign(line_height(many.heights, line[:k]))
        for other, number in step_of_word(many.prime, many.heights, many.products, word).items():
            plus(total, {line[:k] + (other,) + line[k + 1:]: number}, -times)
        for cut in range(1, len(word)):
            one, other = word[:cut], word[cut:]
            plus(total, {line[:k] + (one, other) + line[k + 1:]: sign(turn(many.heights, one))}, times)
    return clean(total, many.prime)


def shuffles_by_spots(heights, one, other):
    """All words in which the places of both stand, by the spots of those of the first one."""
    total = {}
    size = len(one) + len(other)
    for spots in combinations(range(size), len(one)):
        rest = [k for k in range(size) if k not in spots]
        word = [None] * size
        for place, k in zip(one, spots):
            word[k] = place
        for place, k in zip(other, rest):
            word[k] = place
        odd = [k for k in range(size) if heights[word[k]] % 2 == 0]
        passed = sum(1 for k in spots for j in rest if j < k and k in odd and j in odd)
        plus(total, {tuple(word): 1}, sign(passed))
    return {word: total[word] for word in sorted(total) if total[word]}


def random_products(rnd, prime, heights, most, share=0.3):
    """Any products that fit the turns: most of them make no Many."""
    products = {}
    for word in words_up_to(len(heights), most):
        places = [k for k, height in enumerate(heights) if height - 1 == turn(heights, word) + 1]
        if places and rnd.random() < share:
            products[word] = {place: rnd.randrange(-prime, 2 * prime) for place in places if rnd.random() < 0.8}
    return products


def word_books():
    """Books with few words: of frames and of what they leave, by any choices, moved ones, and others."""
    frames = small_frames()
    found = [many_of(frame, 3) for frame in frames] + [left_many(frame, made_choice(frame), 3) for frame in frames]
    found += [left_many(frame, other_choice(frame, 2), 3) for frame in frames]
    found += some_books() + [moved(many, 3).other for many in some_books() if len(many.heights) < 6]
    return found + [Many(2, [], 4, {}), Many(3, [-3, -2], 4, {(0,): {1: 1}}), Many(5, [-64, 64], 4, {}),
                    Many(2, [-1, 0, 0], 3, {(0,): {1: 1}})]


def some_frames():
    """Frames with steps and products, told by other rows, too: with heights below 0 and of both kinds of turns."""
    low = Frame(5, [-1, 0, 0, 1], {}, {0: {1: 2}, 2: {3: 1}})
    return [letters_frame(), mixed_frame(letters_frame(), 4), low, mixed_frame(low, 1)]


def random_words(rnd, prime, size, most, many=6):
    """A sum of words, with numbers of rest 0 and beyond the prime among them."""
    words = words_up_to(size, most)
    return {word: rnd.randrange(-prime, 2 * prime) for word in rnd.sample(words, min(many, len(words)))}
