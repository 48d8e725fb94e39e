"""Numbers told by their primes: what one is, its worth, its divisors, their total, and two joined."""

from everysum.errors import BadNumber, TooMany

GREATEST_PRIME = 997
MOST_DIVISORS = 500


def is_whole(value):
    """Whether value is a whole number."""
    # True and False count as integers in Python, but the document says that they are no numbers.
    return isinstance(value, int) and not isinstance(value, bool)


def is_prime(whole):
    """Whether a whole number is a prime that a number may have."""
    # The bounds come first, so that the trial below is short however great the number is.
    if whole < 2 or whole > GREATEST_PRIME:
        return False
    step = 2
    while step * step <= whole:
        if whole % step == 0:
            return False
        step += 1
    return True


def is_pair(item):
    """Whether item is a tuple of a prime and how often it goes into a number."""
    if not isinstance(item, tuple) or len(item) != 2:
        return False
    prime, times = item
    return is_whole(prime) and is_prime(prime) and is_whole(times) and times >= 1


def are_rising_pairs(items):
    """Whether all items are pairs of primes that rise."""
    last = 0
    for item in items:
        if not is_pair(item) or item[0] <= last:
            return False
        last = item[0]
    return True


def has_too_many(pairs):
    """Whether the number that the pairs tell has more divisors than a number may have."""
    many = 1
    for _, times in pairs:
        many = many * (times + 1)
        # It only grows from here on; going on would make huge products of huge counts.
        if many > MOST_DIVISORS:
            return True
    return False


def check_number(value):
    """Refuse what is no number."""
    if not isinstance(value, list) or not are_rising_pairs(value) or has_too_many(value):
        raise BadNumber("no list of rising primes and how often each goes in, with at most 500 divisors")


def worth(number):
    """The number itself, as a whole number."""
    check_number(number)
    whole = 1
    for prime, times in number:
        for _ in range(times):
            whole = whole * prime
    return whole


def with_prime(found, prime, times):
    """All of found, multiplied by the prime from no time up to so many times."""
    wider = []
    power = 1
    for _ in range(times + 1):
        for divisor in found:
            wider.append(divisor * power)
        power = power * prime
    return wider


def divisors(number):
    """All divisors of the number, rising."""
    check_number(number)
    found = [1]
    for prime, times in number:
        found = with_prime(found, prime, times)
    return sorted(found)


def total(number):
    """All divisors of the number together."""
    return sum(divisors(number))


def joined(one, other):
    """The number that the two are, multiplied."""
    check_number(one)
    check_number(other)
    counts = {}
    for prime, times in [*one, *other]:
        counts[prime] = counts.get(prime, 0) + times
    pairs = [(prime, counts[prime]) for prime in sorted(counts)]
    if has_too_many(pairs):
        raise TooMany("joined they have more than 500 divisors")
    return pairs
