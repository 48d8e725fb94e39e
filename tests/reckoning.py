"""The same things reckoned by other ways than the program's, and numbers to try."""

import signal
import unittest

PRIMES = [n for n in range(2, 998) if all(n % d for d in range(2, n))]

NO_NUMBERS = [
    # no list
    None, True, False, 0, 1, 6, -1, "", "2", "[(2, 1)]", b"", b"2", (), ((2, 1),), (2, 1), {}, {2: 1}, set(), {(2, 1)},
    frozenset(), range(3), object(), list, len, iter([(2, 1)]), 10 ** 5000,
    # an item that is no pair, or no tuple
    [2], [2, 1], [None], ["ab"], [b"ab"], [""], [[2, 1]], [[]], [()], [(2,)], [(2, 1, 1)], [((2, 1),)], [{2: 1, 3: 1}],
    [{2, 1}], [True], [range(1, 3)], [(2, 1), None], [(2, 1), [3, 1]], [(2, 1), (3,)], [(2, 1), (3, 1, 1)],
    # what is no prime, or a prime beyond 997
    [(1, 1)], [(0, 1)], [(-1, 1)], [(-2, 1)], [(-3, 1)], [(4, 1)], [(6, 1)], [(9, 1)], [(25, 1)], [(841, 1)],
    [(961, 1)], [(989, 1)], [(899, 1)], [(993, 1)], [(998, 1)], [(999, 1)], [(1009, 1)], [(1013, 1)], [(7919, 1)],
    [(2 ** 127 - 1, 1)], [(10 ** 5000, 1)], [(-10 ** 5000, 1)], [(2, 1), (4, 1)], [(2, 1), (1009, 1)],
    # a count below 1
    [(2, 0)], [(2, -1)], [(2, -2)], [(2, -10 ** 5000)], [(2, 1), (3, 0)], [(2, 0), (3, 1)], [(2, -3), (3, -3)],
    # primes that do not rise, or stand twice
    [(3, 1), (2, 1)], [(2, 1), (5, 1), (3, 1)], [(997, 1), (991, 1)], [(2, 1), (2, 1)], [(2, 1), (3, 1), (3, 2)],
    # more than 500 divisors
    [(2, 500)], [(997, 500)], [(2, 10 ** 5000)], [(2, 250), (3, 1)], [(2, 166), (3, 2)],
    [(2, 4), (3, 4), (5, 4), (7, 4)], [(p, 1) for p in PRIMES[:9]], [(p, 1) for p in PRIMES],
    [(p, 10 ** 5000) for p in PRIMES],
    # True and False
    [(True, 1)], [(False, 1)], [(2, True)], [(2, False)], [(True, True)], [(2, 1), (3, True)],
    # values of other kinds
    [("2", 1)], [(2, "1")], [("2", "1")], [(b"2", 1)], [(2, b"1")], [(None, 1)], [(2, None)], [((2,), 1)], [(2, (1,))],
    [([2], 1)], [(2, [1])], [({}, 1)], [(2, {})], [(2, object())],
]

GREAT = [
    [(2, 499)], [(997, 499)], [(2, 249), (3, 1)], [(2, 249), (997, 1)], [(2, 4), (3, 4), (5, 4), (7, 3)],
    [(2, 1), (997, 249)], [(2, 24), (3, 19)], [(p, 1) for p in PRIMES[:8]], [(p, 1) for p in PRIMES[-8:]],
    [(2, 9), (991, 6), (997, 6)], [(2, 10), (991, 6), (997, 5)], [(2, 8), (509, 51)], [(2, 8), (521, 51)],
]


class Prompt(unittest.TestCase):
    """Tests that fail instead of going on without end where something is not told at once."""

    def setUp(self):
        def late(*_):
            raise AssertionError("not told at once")

        before = signal.signal(signal.SIGALRM, late)
        self.addCleanup(signal.signal, signal.SIGALRM, before)
        # Again and again, since a subTest swallows the first and goes on to the next input.
        signal.setitimer(signal.ITIMER_REAL, 30, 1)
        self.addCleanup(signal.setitimer, signal.ITIMER_REAL, 0)


def primes_of(whole):
    """The list that tells a whole number, found by dividing; None where a prime is beyond 997."""
    pairs = []
    for prime in PRIMES:
        times = 0
        while whole % prime == 0:
            whole //= prime
            times += 1
        if times:
            pairs.append((prime, times))
    return pairs if whole == 1 else None


def small_numbers(up_to):
    """All whole numbers from 1 on that can be told, each with the list that tells it."""
    told = [(whole, primes_of(whole)) for whole in range(1, up_to + 1)]
    return [(whole, number) for whole, number in told if number is not None]


def divisors_of(whole):
    return [d for d in range(1, whole + 1) if whole % d == 0]


def makeable(rising):
    """Of each sum from 0 to the total whether some of these, no one twice, come to it."""
    bits = 1
    for divisor in rising:
        bits |= bits << divisor
    return [bits >> amount & 1 == 1 for amount in range(sum(rising) + 1)]


def total_by_powers(number):
    product = 1
    for prime, times in number:
        product *= (prime ** (times + 1) - 1) // (prime - 1)
    return product


def all_by_primes(number):
    """Whether each prime is no greater than one and the total of the lesser ones (Stewart, Sierpinski)."""
    return all(number[k][0] <= total_by_powers(number[:k]) + 1 for k in range(len(number)))
