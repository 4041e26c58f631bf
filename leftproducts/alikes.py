"""Alike books: least ones of which one leads to the other by a lead that can be undone."""

from leftproducts.changing import Changing
from leftproducts.judging import need_few
from leftproducts.leads import need_fit, plain_rows, put_behind
from leftproducts.leasts import need_least
from leftproducts.many import need_many
from leftproducts.moves import moved_many, moved_products
from leftproducts.solving import all_sums, undone_rows
from leftproducts.sums import added_tables
from leftproducts.tables import cut_sums, of_length, put_in


def _counted(turns):
    counts = {}
    for turn, many in turns:
        counts[turn] = counts.get(turn, 0) + many
    return counts


def _many_spots(one, other):
    # How many pairs of a word of one and a place of other of its turn are gone through.
    singles = _counted([(height - 1, 1) for height in one.heights])
    aims = _counted([(height - 1, 1) for height in other.heights])
    words = {0: 1}
    found = 0
    for _ in range(max(1, one.most - 2)):
        words = _counted([(turn + more, many * times) for turn, many in words.items()
                          for more, times in singles.items()])
        found += sum([many * aims.get(turn, 0) for turn, many in words.items()])
    return found


def _check(one, other):
    need_many(one)
    need_many(other)
    need_least(one)
    need_least(other)
    need_fit(one, other)
    need_few(one.prime, _many_spots(one, other), 5000)


def _all_firsts(one, other):
    # All rows for the words of one place that can be undone and go along with products of two.
    if sorted(one.heights) != sorted(other.heights):
        return []
    found = [()]
    for height in one.heights:
        singles = [{k: 1} for k, level in enumerate(other.heights) if level == height]
        found = [begun + (row,) for begun in found for row in all_sums({}, singles, one.prime)]
    return [rows for rows in found if _go_along(one, other, rows)]


def _go_along(one, other, rows):
    if undone_rows(rows, len(rows), one.prime) is None:
        return False
    firsts = {(place,): row for place, row in enumerate(rows)}
    ahead = cut_sums(one.prime, firsts, of_length(other.products, 2), 2, 2)
    return ahead == put_in(one.prime, one.heights, of_length(one.products, 2), firsts, 2, 2)


class Search:
    """The search for changes by which books of other's places and products of two are led to other."""

    def __init__(self, other):
        self.other = other
        self.plain = plain_rows(other)
        self.back = [{place: 1} for place in range(len(other.heights))]
        self.changings = {}

    def _gap(self, products, length):
        return added_tables(of_length(products, length), of_length(self.other.products, length), -1, self.other.prime)

    def _changes(self, gap, length):
        # Rows of the longest words but one that are led on go along with no other product: any will do.
        other = self.other
        last = length == other.most - 1
        if last and not gap:
            return [{}]
        if length not in self.changings:
            pairs = of_length(other.products, 2)
            self.changings[length] = Changing(other.prime, other.heights, pairs, length, 0)
        if not last:
            return self.changings[length].all_told(gap)
        change = self.changings[length].told(gap)
        return [] if change is None else [change]

    def way(self, products, length):
        """The list of changes of words of length places and of more, one after the other, that lead products
        that are other's up to length places to other's; None if there are none."""
        other = self.other
        if length >= other.most:
            return []
        for change in self._changes(self._gap(products, length + 1), length):
            table = {**self.plain, **change}
            moved = moved_products(other.prime, other.heights, products, table, self.back, other.most)
            rest = self.way(moved, length + 1)
            if rest is not None:
                return [change] + rest
        return None

    def way_by(self, one, rows):
        """The way from what one is moved to by these rows for words of one place."""
        firsts = {(place,): row for place, row in enumerate(rows)}
        back = undone_rows(rows, len(rows), one.prime)
        return self.way(moved_products(one.prime, one.heights, one.products, firsts, back, one.most), 2)


def alike_lead(one, other):
    """A lead from one to other that can be undone; None if there is none."""
    _check(one, other)
    search = Search(other)
    for rows in _all_firsts(one, other):
        changes = search.way_by(one, rows)
        if changes is not None:
            lead = moved_many(one, other.heights, {(place,): row for place, row in enumerate(rows)})
            for change in changes:
                lead = put_behind(lead, moved_many(lead.other, other.heights, {**plain_rows(other), **change}))
            return lead
    return None


def alike_firsts(one, other):
    """How many tables of rows of the words of one place belong to leads from one to other that can be undone."""
    _check(one, other)
    search = Search(other)
    return len([rows for rows in _all_firsts(one, other) if search.way_by(one, rows) is not None])
