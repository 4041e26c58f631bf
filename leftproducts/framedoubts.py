"""Doubtful products of three and four fine rows of leftovers, by rows of the frame."""

from leftproducts.choices import levels_of, tidied_choice
from leftproducts.doubts import four_told, three_told
from leftproducts.many import many_of
from leftproducts.sums import add_to, led, product_sum, tidied


def _within(frame, pairs, choice, rows):
    # The row within of one row; of two and more a row whose step and their products are nothing
    # together, where onto leads these to nothing: undo makes one.
    within, _, undo = choice
    if len(rows) == 1:
        return led(within, rows[0], frame.prime)
    return led(undo, _products(frame, pairs, choice, rows), frame.prime)


def _products(frame, pairs, choice, rows):
    # Of X and Y, of U and Z and of X and V, of P and T, of U and W and of X and Q: of three the rows U, V
    # and of four P, Q are those within of the rows ahead and behind.
    total = {}
    for k in range(1, len(rows)):
        ahead = _within(frame, pairs, choice, rows[:k])
        behind = _within(frame, pairs, choice, rows[k:])
        add_to(total, product_sum(pairs, ahead, behind), 1)
    return tidied(total, frame.prime)


def _telling(frame, choice):
    # Any U and any row h of leftovers as high make another U, and so with V and W: so what is told
    # of all h, k, l of leftovers is told of all U, V, W.
    pairs = many_of(frame, 2).products
    return lambda rows: led(choice[1], _products(frame, pairs, choice, rows), frame.prime)


def frame_doubt_of_three(frame, choice, one, other, third):
    """The pair of a row of leftovers and of its doubts; None unless products of neighbours are made."""
    tidy = tidied_choice(frame, choice)
    heights = levels_of(frame.heights, tidy[0])
    return three_told(frame.prime, heights, _telling(frame, tidy), [one, other, third])


def frame_doubt_of_four(frame, choice, one, other, third, fourth):
    """The pair of all rows of leftovers that come and of their doubts; None likewise."""
    tidy = tidied_choice(frame, choice)
    heights = levels_of(frame.heights, tidy[0])
    return four_told(frame.prime, heights, _telling(frame, tidy), [one, other, third, fourth])
