"""What changed makes of all changes of words of one length and of one turn, and which of them it leads to a change.

A *spot* is a pair of a word and a place: where a change has a number. Products of two places are given as
pairs, the table of them alone.
"""

from leftproducts.solving import all_sums, basis_of, nothing_sums, one_sum, tagged
from leftproducts.sums import sign, tidied
from leftproducts.tables import turn_of, ways_to


def _words_of_turns(heights, length, turns):
    # Only beginnings that lead to one of these turns are gone on with: there may be few of them among many words.
    ways = [{0: True}]
    for _ in range(length):
        more = {turn + height - 1: True for turn in ways[-1] for height in heights}
        ways.append(more)
    begun = [((), 0)]
    for left in reversed(range(length)):
        fitting = {turn - rest: True for turn in turns for rest in ways[left]}
        longer = [(word + (place,), turn + height - 1) for word, turn in begun for place, height in enumerate(heights)]
        begun = [(word, turn) for word, turn in longer if turn in fitting]
    return [word for word, turn in begun if turn in turns]


def fitting_spots(heights, length, turn):
    """The spots of words of so many places, the place having so much more turn than the word; ascending."""
    places = {}
    for place, height in enumerate(heights):
        places.setdefault(height - 1 - turn, []).append(place)
    return [(word, place) for word in _words_of_turns(heights, length, places)
            for place in places[turn_of(heights, word)]]


def _beside_places(pairs):
    # For each place the places that have a product with it, behind it and ahead of it.
    behind, ahead = {}, {}
    for (one, other), row in pairs.items():
        behind.setdefault(one, []).append((other, row))
        ahead.setdefault(other, []).append((one, row))
    return behind, ahead


def _put_to(total, word, row, times):
    for place in row:
        total[word, place] = total.get((word, place), 0) + times * row[place]


def changed_rows(prime, heights, pairs, spots, turn):
    """For each spot what changed makes of the change of this turn that has 1 there alone: a row of spots."""
    behind, ahead = _beside_places(pairs)
    ways = ways_to(pairs)
    rows = []
    for word, place in spots:
        total = {}
        for other, row in behind.get(place, []):
            _put_to(total, word + (other,), row, 1)
        for other, row in ahead.get(place, []):
            _put_to(total, (other,) + word, row, sign(turn * (heights[other] - 1)))
        for k in range(len(word)):
            times = -sign(turn + turn_of(heights, word[:k]))
            for pair, number in ways.get(word[k], []):
                _put_to(total, word[:k] + pair + word[k + 1:], {place: 1}, times * number)
        rows.append(tidied(total, prime))
    return rows


def changed_count(prime, heights, pairs, length, turn):
    """How many spots there are, and how many changes a basis of those has that changed makes there."""
    spots = fitting_spots(heights, length, turn)
    return len(spots), len(basis_of(changed_rows(prime, heights, pairs, spots, turn), prime))


def _as_change(spots, row):
    change = {}
    for k, number in row.items():
        word, place = spots[k]
        change.setdefault(word, {})[place] = number
    return change


class Changing:
    """The changes of words of one length and of one turn, and what changed makes of them."""

    def __init__(self, prime, heights, pairs, length, turn):
        self.prime = prime
        self.spots = fitting_spots(heights, length, turn)
        rows = changed_rows(prime, heights, pairs, self.spots, turn)
        aims = sorted({spot for row in rows for spot in row})
        self.numbers = {spot: k for k, spot in enumerate(aims)}
        numbered = [{self.numbers[spot]: row[spot] for spot in row} for row in rows]
        self.basis = basis_of(tagged(numbered, len(aims)), prime)

    def _sum_to(self, change):
        aim = {}
        for word, row in change.items():
            for place, number in row.items():
                if (word, place) not in self.numbers:
                    return None
                aim[self.numbers[word, place]] = number
        return one_sum(self.basis, len(self.numbers), aim, self.prime)

    def told(self, change):
        """One of them that changed leads to change; None if there is none."""
        row = self._sum_to(change)
        return None if row is None else _as_change(self.spots, row)

    def all_told(self, change):
        """All of them that changed leads to change."""
        row = self._sum_to(change)
        if row is None:
            return []
        rows = all_sums(row, nothing_sums(self.basis, len(self.numbers)), self.prime)
        return [_as_change(self.spots, one) for one in rows]
