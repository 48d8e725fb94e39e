"""What is told of a number: that all its sums are made, or one that none make."""

from everysum.numbers import divisors, total
from everysum.sums import least_unmade


class Answer:
    """One of the two things that are told of a number."""


class All(Answer):
    """Each sum from 0 to the total is made of unlike divisors."""

    def shows(self, number):
        """Whether this is so of the number."""
        return least_unmade(number) > total(number)


class Barred(Answer):
    """A sum than which all divisors no greater than it, together, are less."""

    def __init__(self, amount):
        self.amount = amount

    def shows(self, number):
        """Whether this is so of the number, by the amount as it stands now."""
        # An amount below 1 needs no test of its own: no divisors come to 0, which is not less.
        together = sum([divisor for divisor in divisors(number) if divisor <= self.amount])
        return together < self.amount and self.amount <= total(number)
