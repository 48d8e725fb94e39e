"""Everysum: numbers all lesser sums of which are made of unlike divisors."""
