"""Changes of a least book: rows for words of 0 to most places, put into one another and into the products."""

from leftproducts.changing import Changing, changed_count
from leftproducts.errors import BadChange
from leftproducts.judging import need_any_number, need_few, need_number
from leftproducts.leasts import need_least
from leftproducts.sums import added_tables, sign, tidied_table
from leftproducts.tables import is_table, of_length, put_in


def _judged(many, turn, thing):
    return is_table(thing, many.prime, many.heights, many.heights, (0, many.most), turn)


def is_change(many, turn, thing):
    """Whether any value is a change of this turn."""
    need_least(many)
    need_any_number(turn, "turn")
    return _judged(many, turn, thing)


def _tidied(many, turn, change):
    if not _judged(many, turn, change):
        raise BadChange("a change of the turn is wanted")
    return tidied_table(change, many.prime)


def _both_tidied(many, one, one_turn, other, other_turn):
    need_least(many)
    need_any_number(one_turn, "one_turn")
    need_any_number(other_turn, "other_turn")
    return _tidied(many, one_turn, one), _tidied(many, other_turn, other)


def _put(many, one, other, other_turn):
    return put_in(many.prime, many.heights, other, one, 0, many.most, other_turn)


def _bracket(many, one, one_turn, other, other_turn):
    there, back = _put(many, one, other, other_turn), _put(many, other, one, one_turn)
    return added_tables(there, back, -sign(one_turn * other_turn), many.prime)


def changes_put(many, one, one_turn, other, other_turn):
    """The change that the other one put into one makes."""
    left, right = _both_tidied(many, one, one_turn, other, other_turn)
    return _put(many, left, right, other_turn)


def changes_bracket(many, one, one_turn, other, other_turn):
    """The other one put into one, less one put into the other one, with the sign of going past."""
    left, right = _both_tidied(many, one, one_turn, other, other_turn)
    return _bracket(many, left, one_turn, right, other_turn)


def changed(many, change, turn):
    """The bracket of the products of two places and of the change."""
    need_least(many)
    need_any_number(turn, "turn")
    return _bracket(many, of_length(many.products, 2), 1, _tidied(many, turn, change), turn)


def change_sizes(many, length, turn):
    """How many changes there are of this length and turn, how many changed leads to nothing, how many of
    these are left."""
    need_least(many)
    need_number(length, 0, many.most - 1, "length")
    need_any_number(turn, "turn")
    need_few(len(many.heights), length + 1, 3000)
    pairs = of_length(many.products, 2)
    spots, lost = changed_count(many.prime, many.heights, pairs, length, turn)
    made = 0
    if length > 0:
        _, made = changed_count(many.prime, many.heights, pairs, length - 1, turn - 1)
    return spots, spots - lost, spots - lost - made


def made_by(many, change, turn):
    """A change of the turn less 1 that changed leads to the tidied change; None if there is none."""
    pairs = of_length(many.products, 2)
    found = {}
    for length in range(max([len(word) for word in change], default=0) + 1):
        part = of_length(change, length)
        # No change is changed to rows of the word of no place.
        if part and length == 0:
            return None
        if part:
            told = Changing(many.prime, many.heights, pairs, length - 1, turn - 1).told(part)
            if told is None:
                return None
            found.update(told)
    return tidied_table(found, many.prime)


def told_change(many, change, turn):
    """A change of the turn less 1 that changed leads to the change; None if there is none."""
    need_least(many)
    need_any_number(turn, "turn")
    tidy = _tidied(many, turn, change)
    need_few(len(many.heights), max([len(word) for word in tidy], default=0), 3000)
    return made_by(many, tidy, turn)
