import random
import unittest

from leftproducts.errors import BadPrime, BadTable
from leftproducts.tidyrows import row_less, tidy_rows
from tests.helpers import all_rows, clean, is_ascending, is_sum_of, plus, rank, random_row, refused, spread, untouched

NO_PRIMES = (None, 0, 1, 4, 37, True, "3", 3.0, -3)
NO_ROWS = (None, 0, True, "x", [], (), {True: 1}, {-1: 0}, {"0": 1}, {None: 1}, {0: True}, {0: 1.0}, {0: "1"},
           {0: None}, {(0,): 1}, {1.0: 1})


def is_tidy(rows, prime):
    firsts = [min(row) for row in rows]
    return (firsts == sorted(set(firsts)) and all(row[first] == 1 for row, first in zip(rows, firsts))
            and all(0 < number < prime for row in rows for number in row.values())
            and all(first not in row for first in firsts for row in rows if min(row) != first))


class TidyRowsTest(unittest.TestCase):
    def test_by_hand(self):
        self.assertEqual(tidy_rows(5, [{0: 2, 1: 4}]), ({0: 1, 1: 2},))
        self.assertEqual(tidy_rows(5, [{1: 1, 2: 1}, {0: 1, 1: 1}]), ({0: 1, 2: 4}, {1: 1, 2: 1}))
        self.assertEqual(tidy_rows(2, [{0: 1, 1: 1}, {1: 1, 2: 1}, {0: 1, 2: 1}]), ({0: 1, 2: 1}, {1: 1, 2: 1}))
        self.assertEqual(tidy_rows(3, [{7: -1}, {2: 5, 100: 2}]), ({2: 1, 100: 1}, {7: 1}))

    def test_no_rows_and_rows_of_noughts(self):
        for rows in ([], (), [{}], [{}, {}], [{0: 3}, {4: -6, 2: 0}]):
            self.assertEqual(tidy_rows(3, rows), ())
        self.assertEqual(tidy_rows(3, ({0: 3, 5: 4}, {1: 3})), ({5: 1},))

    def test_they_are_tidy_and_tell_the_same_sums(self):
        rnd = random.Random(1)
        for prime in (2, 3, 7, 31):
            for _ in range(60):
                rows = [random_row(rnd, prime, 6) for _ in range(rnd.randrange(6))]
                tidy = untouched(self, tidy_rows, prime, rows)
                self.assertIsInstance(tidy, tuple)
                self.assertTrue(is_tidy(tidy, prime))
                self.assertTrue(all(is_ascending(row) for row in tidy))
                self.assertEqual(rank(rows, prime), len(tidy))
                self.assertTrue(all(is_sum_of(row, tidy, prime) for row in rows))
                # They are the same for all rows that tell the same sums.
                mixed = rows + [spread(rows, random_row(rnd, prime, len(rows)), prime) for _ in range(3)]
                rnd.shuffle(mixed)
                self.assertEqual(tidy_rows(prime, tuple(mixed)), tidy)
                self.assertEqual(tidy_rows(prime, tidy), tidy)

    def test_they_are_new(self):
        rows = [{0: 1}]
        tidy_rows(3, rows)[0][0] = 2
        self.assertEqual(rows, [{0: 1}])

    def test_errors(self):
        for prime in NO_PRIMES:
            refused(self, BadPrime, None, None, tidy_rows, prime, None)
        for rows in (None, 0, "x", {}, {0: {}}, True):
            refused(self, BadTable, None, None, tidy_rows, 3, rows)
        for row in NO_ROWS:
            refused(self, BadTable, None, None, tidy_rows, 3, [{0: 1}, row])
        self.assertEqual(tidy_rows(rows=[{1: 2}], prime=3), ({1: 1},))


class RowLessTest(unittest.TestCase):
    def test_by_hand(self):
        tidy = ({0: 1, 2: 4}, {1: 1, 2: 1})
        self.assertEqual(row_less(5, tidy, {0: 1, 1: 1}), {})
        self.assertEqual(row_less(5, tidy, {0: 2}), {2: 2})
        self.assertEqual(row_less(5, tidy, {3: 6, 0: -5}), {3: 1})
        self.assertEqual(row_less(5, (), {3: -1, 1: 10}), {3: 4})
        # Places of tidy rows stand in whatever sequence.
        self.assertEqual(row_less(5, ({2: 4, 0: 1},), {0: 2}), {2: 2})

    def test_it_differs_by_multiples_and_has_no_first_places(self):
        rnd = random.Random(2)
        for prime in (2, 3, 7, 31):
            for _ in range(60):
                tidy = tidy_rows(prime, [random_row(rnd, prime, 6) for _ in range(rnd.randrange(5))])
                row = random_row(rnd, prime, 7)
                less = untouched(self, row_less, prime, tidy, row)
                self.assertTrue(is_ascending(less))
                self.assertEqual(less, clean(less, prime))
                self.assertFalse(set(less) & {min(one) for one in tidy})
                plus(less, row, -1)
                self.assertTrue(is_sum_of(less, tidy, prime))

    def test_all_rows_of_three_places(self):
        tidy = ({0: 1, 2: 2},)
        found = {tuple(row_less(3, tidy, row).items()) for row in all_rows(3, range(3))}
        self.assertEqual(found, {tuple(row.items()) for row in all_rows(3, (1, 2))})

    def test_errors(self):
        for prime in NO_PRIMES:
            refused(self, BadPrime, None, None, row_less, prime, None, None)
        for tidy in (None, 0, "x", {}, True, [], [{0: 1}]):
            refused(self, BadTable, None, None, row_less, 3, tidy, {})
        for row in NO_ROWS:
            refused(self, BadTable, None, None, row_less, 3, (row,), {})
            refused(self, BadTable, None, None, row_less, 3, ({0: 1},), row)
        for tidy in (({},), ({0: 1}, {}), ({0: 2},), ({0: 1, 1: 3},), ({0: 1, 1: 0},), ({0: 1, 1: -1},),
                     ({0: 4},), ({0: 1, 1: 1}, {1: 1}), ({1: 1}, {0: 1}), ({0: 1}, {0: 1}), ({1: 2, 0: 2},),
                     ({0: 1}, {1: 2}), ({0: 1, 1: 4}, {2: 1}), ({0: 1, 2: 1}, {1: 1, 2: 1}, {2: 1})):
            refused(self, BadTable, None, None, row_less, 3, tidy, {})
        self.assertEqual(row_less(row={0: 1, 1: 1}, tidy=({0: 1},), prime=3), {1: 1})


if __name__ == "__main__":
    unittest.main()
