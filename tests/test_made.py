"""[5]: unlike divisors that come to a sum."""

import unittest

from everysum.answers import All
from everysum.errors import NotAll
from everysum.numbers import divisors, total
from everysum.telling import made, told
from tests.reckoning import GREAT, Prompt, divisors_of, makeable, small_numbers


class Made(Prompt):
    def check(self, number, amount, rising):
        told_list = made(number, amount)
        self.assertIs(type(told_list), list)
        self.assertEqual(sum(told_list), amount)
        # Rising strictly, so no one stands twice.
        self.assertTrue(all(one < other for one, other in zip(told_list, told_list[1:])))
        self.assertTrue(all(divisor in rising for divisor in told_list))

    def test_told_by_hand(self):
        self.assertEqual(made([], 0), [])
        self.assertEqual(made([], 1), [1])
        self.assertEqual(made([(2, 1)], 3), [1, 2])
        self.assertEqual(made([(2, 4)], 21), [1, 4, 16])
        self.assertEqual(made([(2, 1), (3, 1)], 12), [1, 2, 3, 6])

    def test_all_sums_of_small_numbers(self):
        for whole, number in small_numbers(260):
            rising = divisors_of(whole)
            of_all = all(makeable(rising))
            for amount in range(sum(rising) + 1):
                if of_all:
                    self.check(number, amount, rising)
                else:
                    self.assertRaises(NotAll, made, number, amount)

    def test_great_numbers(self):
        of_all = [number for number in GREAT if isinstance(told(number), All)]
        self.assertGreater(len(of_all), 3)
        for number in of_all:
            most = total(number)
            rising = divisors(number)
            self.assertEqual(made(number, 0), [])
            self.assertEqual(made(number, 1), [1])
            self.assertEqual(made(number, most), rising)
            for amount in (most - 1, most // 2, most // 2 + 1, most // 3, most * 2 // 3, rising[-1] - 1):
                self.check(number, amount, rising)

    def test_powers_of_two(self):
        amount = int("10" * 250, 2)
        self.assertEqual(made([(2, 499)], amount), [2 ** k for k in range(1, 500, 2)])


if __name__ == "__main__":
    unittest.main()
