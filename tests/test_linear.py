"""Tables of numbers modulo a prime, on which what is reckoned with differentials rests."""

import itertools
import unittest

from curveheads.linear import cleared_rows, null_lists, null_sums, numbers_summing, table_power, table_product
from tests.samples import PRIMES, Stream, trimmed


def tables(p, seed):
    stream = Stream(seed)
    for rows, size in ((0, 0), (0, 3), (1, 1), (2, 3), (3, 2), (3, 3), (4, 3)):
        yield size, [[stream.below(p) if stream.below(2) else 0 for _ in range(size)] for _ in range(rows)]


def summed(p, rows, numbers):
    return [sum(number * told for number, told in zip(row, numbers)) % p for row in rows]


class LinearTest(unittest.TestCase):
    def test_null_lists(self):
        for p in PRIMES[:3]:
            for size, rows in [one for seed in range(4) for one in tables(p, seed)]:
                found = null_lists(p, rows, size)
                self.assertTrue(all(summed(p, rows, numbers) == [0] * len(rows) for numbers in found))
                many = sum(not any(summed(p, rows, numbers)) for numbers in itertools.product(range(p), repeat=size))
                self.assertEqual(many, p ** len(found))
                self.assertEqual(size - len(found), len(cleared_rows(p, rows, size)[1]))
                # Each has a 1 in the end at a place where no other one has something.
                ends = [max(at for at, number in enumerate(numbers) if number) for numbers in found]
                self.assertEqual(ends, sorted(set(ends)))
                for at in ends:
                    self.assertEqual([numbers[at] for numbers in found], [int(at == end) for end in ends])

    def test_wanted_sums(self):
        many = [0, 0]
        for p in PRIMES[:3]:
            for size, rows in [one for seed in range(4) for one in tables(p, seed)]:
                able = {tuple(summed(p, rows, numbers)) for numbers in itertools.product(range(p), repeat=size)}
                for wanted in itertools.product(range(p), repeat=len(rows)):
                    told = numbers_summing(p, rows, size, list(wanted))
                    self.assertIs(told is not None, wanted in able)
                    many[wanted in able] += 1
                    if told is not None:
                        self.assertEqual(len(told), size)
                        self.assertEqual(tuple(summed(p, rows, told)), wanted)
        self.assertGreater(min(many), 100)

    def test_sums_of_polynomials(self):
        for p in PRIMES[:2]:
            stream = Stream(p)
            for _ in range(20):
                tuples = [(stream.polynomial(p, 1), stream.polynomial(p, 0)) for _ in range(4)]
                rows = [[(told[part] + [0, 0])[at] for told in tuples] for part in (0, 1) for at in (0, 1)]
                found = null_sums(p, tuples)
                self.assertEqual(len(found), len(null_lists(p, rows, 4)))
                self.assertTrue(all(not any(summed(p, rows, numbers)) for numbers in found))
        self.assertEqual(null_sums(5, []), [])
        self.assertEqual(null_sums(5, [([], []), ([1], [])]), [[1, 0]])

    def test_tables(self):
        for p in PRIMES:
            stream = Stream(p)
            for size in (0, 1, 2, 3):
                table = [[stream.below(p) for _ in range(size)] for _ in range(size)]
                taken = [[int(row == column) for column in range(size)] for row in range(size)]
                for count in range(12):
                    self.assertEqual(table_power(p, table, count), taken)
                    taken = table_product(p, taken, table)
                    self.assertEqual(taken, table_product(p, table, table_power(p, table, count)))
        self.assertEqual(table_product(5, [[1, 2], [0, 3]], [[0, 1], [1, 4]]), [[2, 4], [3, 2]])
        self.assertEqual(trimmed(table_power(7, [[3]], 5)[0]), [5])


if __name__ == "__main__":
    unittest.main()
