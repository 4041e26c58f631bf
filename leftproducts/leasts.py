"""Least books: those without products of one place, and the leads that leave the same."""

from leftproducts.choices import choice_of_steps
from leftproducts.errors import NotLeast
from leftproducts.judging import need_few
from leftproducts.leads import need_lead
from leftproducts.leftovers import sizes_left
from leftproducts.many import need_many
from leftproducts.solving import basis_of, put_to_basis
from leftproducts.sums import led
from leftproducts.transfers import left_by_trees


def _steps_of_many(many):
    return [many.products.get((place,), {}) for place in range(len(many.heights))]


def _choice_of_many(many):
    return choice_of_steps(many.prime, many.heights, _steps_of_many(many))


def is_least(many):
    """Whether no word of one place has a product."""
    need_many(many)
    return not any([len(word) == 1 for word in many.products])


def need_least(many):
    """Raises BadMany(None) unless many is a Many, NotLeast unless it is a least one."""
    if not is_least(many):
        raise NotLeast("a book without products of one place is wanted")


def least_many(many):
    """A lead from a least book to many that leaves the same."""
    need_many(many)
    choice = _choice_of_many(many)
    need_few(len(choice[0]), many.most, 10000)
    return left_by_trees(many, choice)


def _sizes_of_many(many):
    return sizes_left(many.prime, many.heights, _steps_of_many(many))


def leaves_same(lead):
    """Whether both books of the lead leave as much, and no row left of the first one is lost."""
    need_lead(lead)
    one, prime = lead.one, lead.one.prime
    if _sizes_of_many(one) != _sizes_of_many(lead.other):
        return False
    firsts = [lead.rows.get((place,), {}) for place in range(len(one.heights))]
    made = basis_of(_steps_of_many(lead.other), prime)
    # No row is lost if the rows that stand for what is left stay free of what is made.
    within, _, _ = _choice_of_many(one)
    return all([put_to_basis(made, led(firsts, row, prime), prime) for row in within])
