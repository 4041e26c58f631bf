"""Letter books that the tests share, and what points 70 to 72 tell, worked out text by text."""

import random
from itertools import product as pairs_of

from leftproducts.bars import bars, bar_step
from leftproducts.choices import choice_of_steps
from leftproducts.letterbooks import LetterBook
from tests.helpers import clean, plus, random_rows, rank, sign, spread


def texts(letters, length):
    return list(pairs_of(range(letters), repeat=length))


def nothings(book, length):
    """All texts of a rule with texts ahead and behind that are of this length: sums that are nothing."""
    found = []
    for rule in book.rules:
        room = length - len(min(rule))
        for k in range(room + 1):
            for ahead in texts(book.letters, k):
                for behind in texts(book.letters, room - k):
                    found.append({ahead + text + behind: number for text, number in rule.items()})
    return found


def is_nothing(book, row):
    """Whether a sum of texts of one length is nothing."""
    row = clean(row, book.prime)
    if not row:
        return True
    rows = nothings(book, len(min(row)))
    return rank(rows + [row], book.prime) == rank(rows, book.prime)


def is_head(book, text):
    """Whether some sum is nothing that has the text and besides it only lesser texts of its length."""
    rows = nothings(book, len(text))
    lesser = [{one: 1} for one in texts(book.letters, len(text)) if one < text]
    return rank(rows + lesser + [{text: 1}], book.prime) == rank(rows + lesser, book.prime)


def step_of(book, row, rest):
    """bar_step, as point 71 tells it; rest leads a text to its rest."""
    total = {}
    for bar, number in row.items():
        for k, text in enumerate(bar):
            for one, other in rest_pairs(book, len(text)):
                times = rest(one + other).get(text, 0)
                plus(total, {bar[:k] + (one, other) + bar[k + 1:]: 1}, sign(k) * number * times)
    return clean(total, book.prime)


def rest_pairs(book, length):
    found = []
    for k in range(1, length):
        for one in texts(book.letters, k):
            for other in texts(book.letters, length - k):
                if not is_head(book, one) and not is_head(book, other):
                    found.append((one, other))
    return found


def random_rules(rnd, prime, letters, most):
    rules = []
    for _ in range(rnd.randrange(5)):
        if letters == 0 or most < 2:
            rules.append({})
            continue
        names = texts(letters, rnd.randrange(2, most + 1))
        rules.append({text: rnd.randrange(-prime, 2 * prime) for text in rnd.sample(names, min(len(names), 3))})
    return rules


def small_books():
    """Books with few bars: those by hand, and some at random."""
    found = [
        LetterBook(3, 2, 3, [{(1, 0): 1, (0, 1): 2}]),
        LetterBook(5, 1, 4, [{(0, 0, 0): 1}]),
        LetterBook(2, 1, 6, [{(0, 0): 1}]),
        LetterBook(7, 1, 6, [{(0, 0, 0, 0): 3}]),
        LetterBook(3, 1, 5, []),
        LetterBook(3, 0, 4, []),
        LetterBook(5, 0, 6, [{}]),
        LetterBook(2, 3, 1, []),
        LetterBook(2, 2, 4, [{(0, 0): 1}, {(1, 1): 1}, {(0, 1): 1, (1, 0): 1}]),
        LetterBook(3, 2, 4, [{(0, 1): 1}, {(0, 0, 0): 1}, {(1, 1, 0): 1, (1, 0, 0): 1}]),
        LetterBook(5, 2, 4, [{(0, 0): 1, (1, 1): 1}, {(0, 1): 1, (1, 0): 2}]),
        LetterBook(3, 3, 3, [{(a, b): 1} for a in range(3) for b in range(3) if a >= b]),
    ]
    rnd = random.Random(5)
    while len(found) < 40:
        prime, letters, most = rnd.choice((2, 3, 7)), rnd.randrange(4), rnd.randrange(1, 6)
        book = LetterBook(prime, letters, most, random_rules(rnd, prime, letters, most))
        many = [1]
        for length in range(1, most + 1):
            many.append(sum(many[length - k] * len([text for text in texts(letters, k) if text not in book.heads])
                            for k in range(1, length + 1)))
        if sum(many) <= 260:
            found.append(book)
    return found


def other_bar_choice(book, seed):
    """A bar choice that is not the package's own: that of the bars told by other rows, led back, its
    leftovers mixed; letters stay."""
    rnd = random.Random(seed)
    prime = book.prime
    listed = bars(book)
    at = {bar: k for k, bar in enumerate(listed)}
    keys = [(len(bar), sum(map(len, bar)), k if len(bar[0]) == len(bar) == 1 else 0) for k, bar in enumerate(listed)]
    steps = [{at[bar]: n for bar, n in bar_step(book, {name: 1}).items()} for name in listed]
    there, back = random_rows(rnd, prime, keys, 2 * len(listed))
    mixed = [spread(there, spread(steps, back[k], prime), prime) for k in range(len(listed))]
    within, onto, undo = choice_of_steps(prime, [len(bar) for bar in listed], mixed)
    within = [spread(back, row, prime) for row in within]
    onto = [spread(onto, there[k], prime) for k in range(len(listed))]
    undo = [spread(back, spread(undo, there[k], prime), prime) for k in range(len(listed))]
    to_new, to_old = random_rows(rnd, prime, [keys[min(row)] for row in within])
    within = [spread(within, to_old[k], prime) for k in range(len(within))]
    onto = [spread(to_new, row, prime) for row in onto]
    name = [{listed[k]: n for k, n in row.items()} for row in within]
    return (tuple(name), dict(zip(listed, onto)),
            {bar: {listed[k]: n for k, n in undo[at[bar]].items()} for bar in reversed(listed)})
