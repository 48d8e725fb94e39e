"""[2]: worth, divisors and total; [3]: two numbers joined."""

import unittest

from everysum.errors import TooMany
from everysum.numbers import divisors, joined, total, worth
from tests.reckoning import GREAT, PRIMES, Prompt, divisors_of, primes_of, small_numbers, total_by_powers


class Divisors(Prompt):
    def test_one(self):
        self.assertEqual(worth([]), 1)
        self.assertEqual(divisors([]), [1])
        self.assertEqual(total([]), 1)

    def test_told_by_hand(self):
        self.assertEqual(worth([(2, 2), (3, 1)]), 12)
        self.assertEqual(divisors([(2, 2), (3, 1)]), [1, 2, 3, 4, 6, 12])
        self.assertEqual(total([(2, 2), (3, 1)]), 28)
        self.assertEqual(divisors([(2, 3), (997, 1)]), [1, 2, 4, 8, 997, 1994, 3988, 7976])

    def test_small_numbers(self):
        for whole, number in small_numbers(1200):
            self.assertEqual(worth(number), whole)
            self.assertEqual(divisors(number), divisors_of(whole))
            self.assertEqual(total(number), sum(divisors_of(whole)))

    def test_a_prime_499_times(self):
        for prime in (2, 3, 997):
            number = [(prime, 499)]
            self.assertEqual(worth(number), prime ** 499)
            self.assertEqual(divisors(number), [prime ** k for k in range(500)])
            self.assertEqual(total(number), (prime ** 500 - 1) // (prime - 1))

    def test_great_numbers(self):
        for number in GREAT:
            whole = 1
            many = 1
            for prime, times in number:
                whole *= prime ** times
                many *= times + 1
            told = divisors(number)
            self.assertEqual(worth(number), whole)
            self.assertEqual(len(told), many)
            self.assertTrue(all(one < other for one, other in zip(told, told[1:])))
            self.assertTrue(all(whole % divisor == 0 for divisor in told))
            self.assertEqual(total(number), total_by_powers(number))

    def test_kinds(self):
        for number in ([], [(2, 1), (5, 2)]):
            self.assertIs(type(worth(number)), int)
            self.assertIs(type(total(number)), int)
            self.assertIs(type(divisors(number)), list)


class Joined(Prompt):
    def test_told_by_hand(self):
        self.assertEqual(joined([], []), [])
        self.assertEqual(joined([(5, 1)], []), [(5, 1)])
        self.assertEqual(joined([], [(5, 1)]), [(5, 1)])
        self.assertEqual(joined([(2, 1), (7, 2)], [(3, 1), (11, 1)]), [(2, 1), (3, 1), (7, 2), (11, 1)])
        self.assertEqual(joined([(7, 2)], [(3, 1)]), [(3, 1), (7, 2)])
        self.assertEqual(joined([(2, 3), (7, 2)], [(2, 4), (7, 5)]), [(2, 7), (7, 7)])
        self.assertEqual(joined([(2, 3), (997, 1)], [(2, 4), (3, 1)]), [(2, 7), (3, 1), (997, 1)])

    def test_small_numbers(self):
        numbers = small_numbers(60)
        for whole, one in numbers:
            for factor, other in numbers:
                told = joined(one, other)
                self.assertEqual(told, primes_of(whole * factor))
                self.assertIs(type(told), list)
                self.assertTrue(all(type(pair) is tuple for pair in told))

    def test_great_numbers(self):
        self.assertEqual(joined([(2, 100)], [(2, 399)]), [(2, 499)])
        self.assertEqual(joined([(2, 1)], [(997, 249)]), [(2, 1), (997, 249)])
        eight = [(prime, 1) for prime in PRIMES[:8]]
        self.assertEqual(joined(eight[::2], eight[1::2]), eight)
        for one in GREAT:
            self.assertEqual(joined(one, []), one)
            self.assertRaises(TooMany, joined, one, one)


if __name__ == "__main__":
    unittest.main()
