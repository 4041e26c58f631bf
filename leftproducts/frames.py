"""Frames: rows of numbers by heights, their products, and a step that is nothing twice."""

from leftproducts.errors import BadFrame
from leftproducts.judging import are_heights, is_between, is_row, is_word, need_prime
from leftproducts.sums import add_to, led, product_sum, sign, tidied, tidied_table


def _is_row_at(thing, heights, height, prime):
    """Whether thing is a row that has only places of this height."""
    if not is_row(thing, len(heights)):
        return False
    return all([heights[place] == height for place in tidied(thing, prime)])


def _is_product(thing, heights, prime):
    if not isinstance(thing, dict):
        return False
    for pair in thing:
        if not is_word(pair, len(heights), 2, 2):
            return False
        if not _is_row_at(thing[pair], heights, heights[pair[0]] + heights[pair[1]], prime):
            return False
    return True


def _is_step(thing, heights, prime):
    if not isinstance(thing, dict):
        return False
    for place in thing:
        if not is_between(place, 0, len(heights) - 1):
            return False
        if not _is_row_at(thing[place], heights, heights[place] + 1, prime):
            return False
    return True


def _is_free_of_brackets(prime, size, product):
    for a in range(size):
        for b in range(size):
            for c in range(size):
                if (a, b) not in product and (b, c) not in product:
                    continue
                total = product_sum(product, product.get((a, b), {}), {c: 1})
                add_to(total, product_sum(product, {a: 1}, product.get((b, c), {})), -1)
                if tidied(total, prime):
                    return False
    return True


def _keeps_rule(prime, heights, product, steps):
    for a in range(len(heights)):
        for b in range(len(heights)):
            total = led(steps, product.get((a, b), {}), prime)
            add_to(total, product_sum(product, steps[a], {b: 1}), -1)
            add_to(total, product_sum(product, {a: 1}, steps[b]), -sign(heights[a]))
            if tidied(total, prime):
                return False
    return True


def steps_of(frame):
    """The list of the steps of all places of the frame, {} for those without one."""
    return [frame.step.get(place, {}) for place in range(len(frame.heights))]


class Frame:
    """So many places with heights, products of pairs of them, and a step."""

    def __init__(self, prime, heights, product, step):
        need_prime(prime)
        if not are_heights(heights, -8, 16):
            raise BadFrame("heights")
        if not _is_product(product, heights, prime):
            raise BadFrame("product")
        if not _is_step(step, heights, prime):
            raise BadFrame("step")
        self.prime = prime
        self.heights = tuple(heights)
        self.product = tidied_table(product, prime)
        self.step = tidied_table(step, prime)
        if not _is_free_of_brackets(prime, len(heights), self.product):
            raise BadFrame("bracket")
        steps = steps_of(self)
        if any([led(steps, row, prime) for row in steps]):
            raise BadFrame("twice")
        if not _keeps_rule(prime, self.heights, self.product, steps):
            raise BadFrame("rule")

    def __eq__(self, other):
        return (isinstance(other, Frame) and self.prime == other.prime and self.heights == other.heights
                and self.product == other.product and self.step == other.step)


def need_frame(frame):
    """Raises BadFrame(None) unless frame is a Frame."""
    if not isinstance(frame, Frame):
        raise BadFrame(None)
