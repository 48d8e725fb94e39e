"""How far the sums go that unlike divisors of a number make."""

from everysum.numbers import divisors


def least_unmade(number):
    """The least sum that no unlike divisors of the number make: beyond the total if they make all up to it."""
    reach = 0
    # The divisors gone through make each sum up to reach. One more that is no greater than reach and one
    # carries that on up to both together; if it is greater, so are all after it, and nothing makes reach and one.
    for divisor in divisors(number):
        if divisor > reach + 1:
            return reach + 1
        reach = reach + divisor
    return reach + 1
