"""Leads between what two choices leave, and between frames, that leave the same."""

from leftproducts.alikes import alike_lead
from leftproducts.choices import made_choice, tidied_choice
from leftproducts.errors import BadFrame
from leftproducts.frames import need_frame
from leftproducts.judging import need_few, need_number
from leftproducts.leads import put_behind
from leftproducts.transfers import left_into, left_many, left_onto


def choice_lead(frame, one, other, most):
    """The lead from what is left by one choice to what is left by the other one."""
    # Both choices are looked at ahead of most.
    tidied_choice(frame, one)
    tidied_choice(frame, other)
    return put_behind(left_into(frame, one, most), left_onto(frame, other, most))


def same_lead(one, other, most):
    """A lead from the book of one frame to that of the other that leaves the same; None if there is none."""
    need_frame(one)
    need_frame(other)
    if one.prime != other.prime:
        raise BadFrame("prime")
    need_number(most, 1, 8, "most")
    need_few(max(len(one.heights), len(other.heights)), most, 10000)
    choice, mate = made_choice(one), made_choice(other)
    between = alike_lead(left_many(one, choice, most), left_many(other, mate, most))
    if between is None:
        return None
    return put_behind(put_behind(left_onto(one, choice, most), between), left_into(other, mate, most))
