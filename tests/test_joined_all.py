"""[6]: All is told of both joined, where the other is no greater than the first one's total and one."""

import unittest

from everysum.answers import All, Barred
from everysum.numbers import divisors, joined, total, worth
from everysum.telling import made, told
from tests.reckoning import PRIMES, Prompt, makeable, primes_of, small_numbers


class JoinedAll(Prompt):
    def test_every_other_up_to_the_edge(self):
        for _, one in small_numbers(60):
            if isinstance(told(one), All):
                for factor in range(1, total(one) + 2):
                    other = primes_of(factor)
                    self.assertIs(type(told(joined(one, other))), All)

    def test_just_at_the_edge(self):
        for one, other in (([], [(2, 1)]), ([(2, 1)], [(2, 2)]), ([(2, 1), (3, 1)], [(13, 1)]),
                           ([(2, 2), (3, 1)], [(29, 1)]), ([(2, 2), (5, 1)], [(43, 1)]), ([(2, 249)], [(2, 250)]),
                           ([(2, 4), (3, 4)], primes_of(3752))):
            self.assertEqual(worth(other), total(one) + 1)
            self.assertIs(type(told(one)), All)
            both = joined(one, other)
            self.assertIs(type(told(both)), All)
            self.assertEqual(sum(made(both, total(both) - 1)), total(both) - 1)

    def test_just_above_the_edge(self):
        # These are a prime of worth total and two, so that one more than the total is a sum that none make.
        for one, other in (([], [(3, 1)]), ([(2, 1)], [(5, 1)]), ([(2, 3)], [(17, 1)]), ([(2, 7)], [(257, 1)])):
            self.assertEqual(worth(other), total(one) + 2)
            self.assertIs(type(told(one)), All)
            answer = told(joined(one, other))
            self.assertIs(type(answer), Barred)
            self.assertIs(Barred(total(one) + 1).shows(joined(one, other)), True)

    def test_above_the_edge_it_is_as_the_sums_are(self):
        for _, one in small_numbers(40):
            if isinstance(told(one), All):
                for more in (2, 3, 4, 5):
                    other = primes_of(total(one) + more)
                    both = joined(one, other)
                    of_all = all(makeable(divisors(both)))
                    self.assertIs(type(told(both)), All if of_all else Barred)

    def test_great_primes(self):
        for times in range(10):
            for prime in PRIMES:
                answer = told(joined([(2, times)] if times else [], [(prime, 1)]))
                self.assertIs(type(answer), All if prime <= 2 ** (times + 1) else Barred)


if __name__ == "__main__":
    unittest.main()
