"""What the step of a frame leaves: how many rows of each height, and which rows are left or made."""

from leftproducts.frames import need_frame, steps_of
from leftproducts.rows import need_row, stepped
from leftproducts.solving import basis_of, less_basis


def sizes_left(prime, heights, steps):
    """How many more rows of each height the steps lead to nothing than they make, ascending."""
    made = basis_of(steps, prime)
    sizes = {height: 0 for height in sorted(heights)}
    for height in heights:
        sizes[height] += 1
    # What is made is free of what leads to it: each such row takes one of both heights.
    for first in made:
        sizes[heights[first]] -= 1
        sizes[heights[first] - 1] -= 1
    return {height: sizes[height] for height in sizes if sizes[height]}


def left_sizes(frame):
    """How many rows the step of the frame leaves of each height."""
    need_frame(frame)
    return sizes_left(frame.prime, frame.heights, steps_of(frame))


def is_left(frame, row):
    """Whether the step of the row is nothing."""
    return not stepped(frame, row)


def is_made(frame, row):
    """Whether the row is the step of some row."""
    need_frame(frame)
    need_row(frame, row)
    made = basis_of(steps_of(frame), frame.prime)
    return not less_basis(made, row, frame.prime)
