"""Which of the two answers holds of a number, and the divisors that make a sum."""

from everysum.answers import All, Barred
from everysum.errors import BadSum, NotAll
from everysum.numbers import check_number, divisors, is_whole, total
from everysum.sums import least_unmade


def told(number):
    """All if each sum up to the total is made of unlike divisors, else the least one that is barred."""
    check_number(number)
    amount = least_unmade(number)
    if amount > total(number):
        return All()
    return Barred(amount)


def made(number, amount):
    """Unlike divisors of the number, rising, that come to the amount."""
    check_number(number)
    if not is_whole(amount) or amount < 0 or amount > total(number):
        raise BadSum("no whole number from 0 to the total")
    if least_unmade(number) <= total(number):
        raise NotAll("not each sum of the number is made of its divisors")
    return sorted(picked(divisors(number), amount))


def picked(rising, amount):
    """Those of the rising divisors, the greatest first, that come to the amount."""
    taken = []
    rest = amount
    # Of a number of which All is told, the lesser divisors together come to at least a divisor less one.
    # So what is left is never more than they make, whether the divisor fits and is taken or not.
    for divisor in reversed(rising):
        if divisor <= rest:
            taken.append(divisor)
            rest = rest - divisor
    return taken
