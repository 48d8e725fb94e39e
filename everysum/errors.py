"""The errors by which everysum refuses what it is handed."""


class SumError(ValueError):
    """What all refusals of everysum are."""


class BadNumber(SumError):
    """What was handed in as a number tells none."""


class BadSum(SumError):
    """What was handed in as a sum is no whole number from 0 to the total."""


class NotAll(SumError):
    """Not every sum of the number is made of its divisors."""


class TooMany(SumError):
    """The number would have too many divisors."""
