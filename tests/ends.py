"""Frames with ends that the tests share, and other fit choices than the package's own."""

import random

from leftproducts.frames import Frame
from leftproducts.makers import faces_frame, turning_frame
from leftproducts.pairings import fit_choice
from leftproducts.sides import beside
from tests.helpers import clean, frame_product, frame_step, led_back, letters_frame, random_rows, rebased, sign


def maps_frame(prime, heights, steps):
    """All maps of a row of places with these heights to itself, and the end that tells their traces with signs.
    The place i * size + j is the map that leads place j to place i."""
    size = len(heights)
    product, step = {}, {}
    for i in range(size):
        for j in range(size):
            level = heights[i] - heights[j]
            for k in range(size):
                product[i * size + j, j * size + k] = {i * size + k: 1}
            # The step of a map a is D a less (-1) ** height times a D.
            row = {k * size + j: number for k, number in steps.get(i, {}).items()}
            for k in range(size):
                if j in steps.get(k, {}):
                    at = i * size + k
                    row[at] = row.get(at, 0) - sign(level) * steps[k][j]
            step[i * size + j] = row
    levels = [heights[i] - heights[j] for i in range(size) for j in range(size)]
    return Frame(prime, levels, product, step), {i * size + i: sign(heights[i]) for i in range(size)}


def mixed_end(frame, end, seed):
    """The same frame and end told by other rows, and the rows there and back."""
    there, back = random_rows(random.Random(seed), frame.prime, frame.heights)
    mixed = rebased(frame, there, back)
    led = {k: sum(number * end.get(place, 0) for place, number in row.items()) for k, row in enumerate(back)}
    return mixed, clean(led, frame.prime), there, back


def frames_with_ends():
    """Pairs of a frame and an end: with steps, of all kinds of heights, told by other rows, too."""
    found = [(letters_frame(), {7: 1}), (turning_frame(5, 2, [{}, {}]), {3: 2}),
             (turning_frame(2, 2, [{}, {}]), {3: 1}),
             (turning_frame(3, 0, []), {0: 2}), (turning_frame(3, 1, [{}]), {1: 1}),
             (turning_frame(5, 4, [{}, {}, {(0, 1): 1}, {(0, 2): 2}]), {15: 1}),
             (turning_frame(2, 3, [{}, {}, {(0, 1): 1}]), {7: 1}),
             (faces_frame(7, [(0,), (1,)]), {0: 3, 1: 1}), (Frame(5, [], {}, {}), {}),
             maps_frame(3, [0, 1, 1], {0: {1: 1}}), maps_frame(5, [1, 0, 0], {1: {0: 2}}),
             maps_frame(2, [0, 1, 3], {0: {1: 1}}), maps_frame(7, [0, 0], {}), maps_frame(3, [0, 2], {})]
    both = beside(turning_frame(3, 1, [{}]), maps_frame(3, [0, 1, 3], {0: {1: 1}})[0])
    found.append((both, {9 + 4 * k: sign(height) for k, height in enumerate([0, 1, 3])}))
    return found + [mixed_end(frame, end, seed)[:2] for frame, end in found[:1] * 3 + found[5:7] + found[9:12]
                    for seed in (1, 2)]


def other_fit_choice(frame, end, seed):
    """A fit choice that is not the package's own: that of the frame told by other rows, led back, its leftovers
    mixed and in another sequence."""
    mixed, led, there, back = mixed_end(frame, end, seed)
    return led_back(frame, fit_choice(mixed, led), there, back, random.Random(seed))


def end_of(frame, end, row):
    return sum(number * end.get(place, 0) for place, number in row.items()) % frame.prime


def end_of_product(frame, end, one, other):
    return end_of(frame, end, frame_product(frame, one, other))


def end_by_rules(frame, thing):
    """is_end of a row of the places, as point 85 tells it, but for the last rule, which is looked at by ranks."""
    end = clean(thing, frame.prime)
    places = range(len(frame.heights))
    if len({frame.heights[place] for place in end}) > 1:
        return False
    if any(end_of(frame, end, frame_step(frame, {place: 1})) for place in places):
        return False
    for a in places:
        for b in places:
            turned = sign(frame.heights[a] * frame.heights[b]) * end_of_product(frame, end, {b: 1}, {a: 1})
            if (end_of_product(frame, end, {a: 1}, {b: 1}) - turned) % frame.prime:
                return False
    return True
