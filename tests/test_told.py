"""[4]: All or Barred is told of a number, and what answers show."""

import unittest

from everysum.answers import All, Barred
from everysum.numbers import divisors, total
from everysum.telling import told
from tests.reckoning import GREAT, PRIMES, Prompt, all_by_primes, divisors_of, makeable, small_numbers

OF_ALL = [1, 2, 4, 6, 8, 12, 16, 18, 20, 24, 28, 30, 32, 36, 40, 42, 48, 54, 56, 60, 64, 66, 72, 78, 80, 84, 88, 90,
          96, 100]


def is_barred(rising, amount):
    """What 4 says of a Barred, word by word."""
    if amount < 0 or amount > sum(rising):
        return False
    together = 0
    for divisor in rising:
        if divisor <= amount:
            together += divisor
    return together < amount


class Told(Prompt):
    def test_numbers_to_100(self):
        of_all = [whole for whole, number in small_numbers(100) if isinstance(told(number), All)]
        self.assertEqual(of_all, OF_ALL)

    def test_small_numbers(self):
        for whole, number in small_numbers(1200):
            rising = divisors_of(whole)
            sums = makeable(rising)
            answer = told(number)
            if all(sums):
                self.assertIs(type(answer), All)
            else:
                self.assertIs(type(answer), Barred)
                self.assertIs(type(answer.amount), int)
                self.assertTrue(is_barred(rising, answer.amount))
                self.assertFalse(sums[answer.amount])

    def test_numbers_of_two_and_three_primes(self):
        for low in (2, 3, 5):
            for times in range(1, 9):
                for high in PRIMES[PRIMES.index(low) + 1:]:
                    number = [(low, times), (high, 2)]
                    self.assertIs(type(told(number)), All if all_by_primes(number) else Barred)
        for high in PRIMES[PRIMES.index(11):]:
            for number in ([(2, 1), (5, 1), (high, 1)], [(2, 2), (7, 1), (high, 1)], [(2, 3), (11, 3), (high, 1)]):
                if number[1][0] < high:
                    self.assertIs(type(told(number)), All if all_by_primes(number) else Barred)

    def test_edges(self):
        # The total of 2 ** 8 is 511, that of 2 ** 9 is 1023, that of 6 is 12, that of 12 is 28.
        for number in ([(2, 8), (509, 1)], [(2, 9), (997, 1)], [(2, 1), (3, 1), (13, 1)], [(2, 2), (3, 1), (29, 1)]):
            self.assertIs(type(told(number)), All)
        for number in ([(2, 8), (521, 1)], [(2, 1), (3, 1), (17, 1)], [(2, 2), (3, 1), (31, 1)], [(2, 1), (5, 1)]):
            self.assertIs(type(told(number)), Barred)

    def test_great_numbers(self):
        for number in GREAT:
            answer = told(number)
            if all_by_primes(number):
                self.assertIs(type(answer), All)
            else:
                self.assertIs(type(answer), Barred)
                self.assertTrue(is_barred(divisors(number), answer.amount))
        kinds = [type(told(number)) for number in GREAT]
        self.assertIn(All, kinds)
        self.assertIn(Barred, kinds)


class Shows(Prompt):
    def test_all(self):
        for whole, number in small_numbers(1200):
            self.assertIs(All().shows(number), all(makeable(divisors_of(whole))))
        for number in GREAT:
            self.assertIs(All().shows(number), all_by_primes(number))

    def test_barred_of_small_numbers(self):
        for whole, number in small_numbers(130):
            rising = divisors_of(whole)
            for amount in range(-3, sum(rising) + 5):
                self.assertIs(Barred(amount).shows(number), is_barred(rising, amount))

    def test_barred_told_by_hand(self):
        ten = [(2, 1), (5, 1)]
        self.assertEqual([amount for amount in range(-9, 30) if Barred(amount).shows(ten)], [4, 9])
        three = [(3, 1)]
        self.assertEqual([amount for amount in range(-9, 30) if Barred(amount).shows(three)], [2])
        # Beyond the total all divisors together are less, but it is no sum that is barred.
        self.assertIs(Barred(5).shows(three), False)
        self.assertIs(Barred(2).shows([]), False)

    def test_amounts_of_any_size(self):
        for number in ([], [(3, 1)], [(2, 1), (5, 1)], [(2, 499)], [(997, 499)]):
            for amount in (-10 ** 6000, -10 ** 300, -1, 0, 1, total(number), total(number) + 1, 10 ** 6000):
                self.assertIs(Barred(amount).shows(number), False)
        self.assertIs(Barred(997 ** 499 - 1).shows([(997, 499)]), True)
        self.assertIs(Barred(997 ** 499).shows([(997, 499)]), False)
        self.assertIs(Barred(total([(997, 498)]) + 1).shows([(997, 499)]), True)
        self.assertIs(Barred(total([(997, 498)])).shows([(997, 499)]), False)

    def test_the_field_as_it_stands(self):
        answer = told([(2, 1), (5, 1)])
        self.assertIs(answer.shows([(2, 1), (5, 1)]), True)
        for amount in (3, -4, 0, 18, 19, 10 ** 6000):
            answer.amount = amount
            self.assertIs(answer.shows([(2, 1), (5, 1)]), False)
        answer.amount = 9
        self.assertIs(answer.shows([(2, 1), (5, 1)]), True)
        self.assertEqual(answer.amount, 9)

    def test_what_was_told_shows_and_the_other_never_does(self):
        for _, number in small_numbers(300) + [(None, number) for number in GREAT]:
            answer = told(number)
            self.assertIs(answer.shows(number), True)
            if isinstance(answer, Barred):
                self.assertIs(All().shows(number), False)
            else:
                for amount in (1, 2, total(number) // 2, total(number) - 1, total(number)):
                    self.assertIs(Barred(amount).shows(number), False)


if __name__ == "__main__":
    unittest.main()
