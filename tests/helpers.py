"""What the tests share: frames, other choices, and the document's rules done word by word."""

import copy
import random
from itertools import product as pairs_of

from leftproducts.choices import made_choice
from leftproducts.frames import Frame
from leftproducts.makers import faces_frame, turning_frame, words_frame

JUNK = (None, True, 0, 7, -1, "ab", b"a", 1.5, (), [], {}, (1,), [1], {0: 1}, object(), Frame)


def clean(row, prime):
    return {k: row[k] % prime for k in sorted(row) if row[k] % prime}


def plus(total, row, times):
    for k, number in row.items():
        total[k] = total.get(k, 0) + times * number


def spread(rows, row, prime):
    total = {}
    for k, number in row.items():
        plus(total, rows[k], number)
    return clean(total, prime)


def sign(number):
    return -1 if number % 2 else 1


def turn(heights, word):
    return sum(heights[k] - 1 for k in word)


def words_up_to(size, most, least=1):
    return [word for length in range(least, most + 1) for word in pairs_of(range(size), repeat=length)]


def cuts(word, parts=None):
    """All ways to cut word into words that are not empty (into so many parts)."""
    if parts == 1 or (parts is None and not word):
        return [[word]] if word else [[]]
    found = []
    for k in range(1, len(word) + 1):
        if parts is None:
            found += [[word[:k]] + rest for rest in cuts(word[k:])]
        elif k < len(word):
            found += [[word[:k]] + rest for rest in cuts(word[k:], parts - 1)]
    return found


def is_ascending(thing):
    """Whether the keys of all dicts in thing ascend, and no row of noughts or nought stands in it."""
    if isinstance(thing, dict):
        keys = list(thing)
        return keys == sorted(keys) and all(value not in (0, {}) and is_ascending(value) for value in thing.values())
    return True


def rank(rows, prime):
    """How many rows a basis of the sums of multiples of rows has."""
    done = {}
    for row in rows:
        row = clean(row, prime)
        while row and min(row) in done:
            first = min(row)
            plus(row, done[first], -row[first])
            row = clean(row, prime)
        if row:
            over = pow(row[min(row)], -1, prime)
            done[min(row)] = {k: number * over % prime for k, number in row.items()}
    return len(done)


def is_sum_of(row, rows, prime):
    """Whether row is a sum of multiples of rows."""
    return rank(list(rows) + [row], prime) == rank(rows, prime)


def all_rows(prime, places):
    """All rows with numbers at these places alone."""
    return [clean(dict(zip(places, numbers)), prime) for numbers in pairs_of(range(prime), repeat=len(places))]


def random_rows(rnd, prime, heights, times=40):
    """Rows of one place each, of its own height, that can be undone, and the rows back."""
    size = len(heights)
    there = [{k: 1} for k in range(size)]
    back = [{k: 1} for k in range(size)]
    for _ in range(times):
        if size < 2:
            break
        a, b = rnd.sample(range(size), 2)
        if heights[a] != heights[b]:
            continue
        number = rnd.randrange(prime)
        # First there, then place a goes to a and number times b.
        step = [{k: 1} for k in range(size)]
        step[a] = clean({a: 1, b: number}, prime)
        undo = [{k: 1} for k in range(size)]
        undo[a] = clean({a: 1, b: -number}, prime)
        there = [spread(step, row, prime) for row in there]
        back = [spread(back, undo[k], prime) for k in range(size)]
    return there, back


def frame_product(frame, one, other):
    total = {}
    for a, n in one.items():
        for b, m in other.items():
            plus(total, frame.product.get((a, b), {}), n * m)
    return clean(total, frame.prime)


def frame_step(frame, row):
    return spread([frame.step.get(k, {}) for k in range(len(frame.heights))], row, frame.prime)


def two(frame, one, other):
    """The product of two rows as point 25 tells it."""
    turned_one = {k: sign(frame.heights[k]) * number for k, number in one.items()}
    return frame_product(frame, turned_one, other)


def rebased(frame, there, back):
    """The same frame told by other rows: place k is told by there[k]."""
    size = len(frame.heights)
    product = {(a, b): spread(there, frame_product(frame, back[a], back[b]), frame.prime)
               for a in range(size) for b in range(size)}
    step = {a: spread(there, frame_step(frame, back[a]), frame.prime) for a in range(size)}
    return Frame(frame.prime, frame.heights, product, step)


def mixed_frame(frame, seed):
    return rebased(frame, *random_rows(random.Random(seed), frame.prime, frame.heights))


def led_back(frame, choice, there, back, rnd):
    """The choice for frame told by other rows, led back, its leftovers in another sequence and mixed."""
    prime = frame.prime
    within, onto, undo = choice
    within = [spread(back, row, prime) for row in within]
    onto = [spread(onto, there[k], prime) for k in range(len(there))]
    undo = [spread(back, spread(undo, there[k], prime), prime) for k in range(len(there))]
    order = list(range(len(within)))
    rnd.shuffle(order)
    within = [within[k] for k in order]
    onto = [{order.index(k): number for k, number in row.items()} for row in onto]
    heights = [frame.heights[min(row)] for row in within]
    to_new, to_old = random_rows(rnd, prime, heights)
    within = [spread(within, to_old[k], prime) for k in range(len(within))]
    onto = [spread(to_new, row, prime) for row in onto]
    return tuple(within), tuple(onto), tuple(undo)


def other_choice(frame, seed):
    """A choice for frame that is not the package's own: that of the frame told by other rows, led back,
    its leftovers in another sequence and mixed."""
    rnd = random.Random(seed)
    there, back = random_rows(rnd, frame.prime, frame.heights)
    return led_back(frame, made_choice(rebased(frame, there, back)), there, back, rnd)


def letters_frame():
    return turning_frame(3, 3, [{}, {}, {(0, 1): 1}])


def circle_frame(prime=3):
    return faces_frame(prime, [(0,), (1,), (2,), (0, 1), (0, 2), (1, 2)])


def three_points(prime=5):
    return faces_frame(prime, [(0,), (1,), (2,), (0, 1)])


def small_frames():
    """Frames of letters, faces and words, some told by other rows; all of at most 8 places."""
    return [
        letters_frame(),
        turning_frame(2, 2, [{}, {}]),
        turning_frame(7, 3, [{(1, 2): 3}, {}, {}]),
        circle_frame(),
        three_points(),
        faces_frame(2, [(0,), (1,), (0, 1)]),
        words_frame(5, [1], [{(0, 0): 2}], 4),
        words_frame(3, [1, 1], [{}, {(0, 0): 1}], 2),
        words_frame(5, [0, 1], [{(1,): 2}, {}], 2),
        words_frame(2, [1, 2], [{(1,): 1}, {}], 2),
        mixed_frame(letters_frame(), 1),
        mixed_frame(circle_frame(5), 2),
        mixed_frame(words_frame(3, [1, 1], [{}, {(0, 0): 1}], 2), 3),
        Frame(3, [], {}, {}),
    ]


def random_row(rnd, prime, size):
    return {k: rnd.randrange(-prime, 2 * prime) for k in range(size) if rnd.random() < 0.6}


def rule_left(prime, heights, products, word):
    """The rule of many at one word, as point 30 tells it."""
    total = {}
    for i in range(len(word)):
        for j in range(i + 1, len(word) + 1):
            ahead, v, behind = word[:i], word[i:j], word[j:]
            for place, number in products.get(v, {}).items():
                plus(total, products.get(ahead + (place,) + behind, {}), number * sign(turn(heights, ahead)))
    return clean(total, prime)


def rows_told(products, rows, prime):
    """rows_product, word by word."""
    total = {}
    for word in pairs_of(*[sorted(row) for row in rows]):
        times = 1
        for place, row in zip(word, rows):
            times *= row[place]
        plus(total, products.get(word, {}), times)
    return clean(total, prime)


def cut_rows(inner, outer, word, prime):
    """The sum over all ways to cut word of outer of inner's rows."""
    total = {}
    for parts in cuts(word):
        plus(total, rows_told(outer, [inner.get(part, {}) for part in parts], prime), 1)
    return clean(total, prime)


def lead_holds(lead):
    """The rule of a lead, word by word."""
    one, other, rows, prime = lead.one, lead.other, lead.rows, lead.one.prime
    for word in words_up_to(len(one.heights), one.most):
        total = {}
        for i in range(len(word)):
            for j in range(i + 1, len(word) + 1):
                for place, number in one.products.get(word[i:j], {}).items():
                    told = rows.get(word[:i] + (place,) + word[j:], {})
                    plus(total, told, number * sign(turn(one.heights, word[:i])))
        if cut_rows(rows, other.products, word, prime) != clean(total, prime):
            return False
    return True


def untouched(test, function, *values):
    """Calls function with the values and looks whether they are as they were."""
    before = copy.deepcopy(values)
    result = function(*values)
    test.assertEqual(values, before)
    return result


def refused(test, error, attribute, value, function, *values, **named):
    """Looks whether the call is refused by just this error with this attribute."""
    with test.assertRaises(error) as caught:
        function(*values, **named)
    test.assertIs(type(caught.exception), error)
    if attribute is not None:
        test.assertEqual(getattr(caught.exception, attribute), value)
        test.assertIs(type(getattr(caught.exception, attribute)), type(value))
