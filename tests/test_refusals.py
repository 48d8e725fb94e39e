"""[1]: what a number and a sum are, what is refused, and that nothing handed in is changed or kept."""

import copy
import unittest

from everysum import answers, errors, numbers, telling
from everysum.answers import All, Answer, Barred
from everysum.errors import BadNumber, BadSum, NotAll, SumError, TooMany
from everysum.numbers import divisors, joined, total, worth
from everysum.telling import made, told
from tests.reckoning import GREAT, NO_NUMBERS, PRIMES, Prompt

NO_SUMS = [None, True, False, "", "1", b"1", [], [1], (), (1,), {}, {1: 1}, {1}, object(), -1, -2, -10 ** 5000,
           10 ** 5000]

JUST_WITHIN = GREAT + [[], [(2, 1)], [(997, 1)], [(991, 1), (997, 1)], [(2, 1), (3, 1)], [(31, 2)]]


class Interface(unittest.TestCase):
    def test_errors(self):
        self.assertEqual(SumError.__bases__, (ValueError,))
        for error in (BadNumber, BadSum, NotAll, TooMany):
            self.assertEqual(error.__bases__, (SumError,))
            self.assertEqual(error.__module__, errors.__name__)

    def test_answers(self):
        for answer in (All, Barred):
            self.assertEqual(answer.__bases__, (Answer,))
            self.assertIn("shows", vars(answer))
            self.assertEqual(answer.__module__, answers.__name__)
        self.assertEqual(vars(Barred(7)), {"amount": 7})
        self.assertEqual(Barred(amount=7).amount, 7)

    def test_functions_are_defined_where_they_are_listed(self):
        for door in (worth, divisors, total, joined):
            self.assertEqual(door.__module__, numbers.__name__)
        for door in (told, made):
            self.assertEqual(door.__module__, telling.__name__)

    def test_arguments_have_their_names(self):
        six = [(2, 1), (3, 1)]
        self.assertEqual(worth(number=six), 6)
        self.assertEqual(total(number=six), 12)
        self.assertEqual(divisors(number=six), [1, 2, 3, 6])
        self.assertEqual(joined(one=six, other=six), [(2, 2), (3, 2)])
        self.assertIsInstance(told(number=six), All)
        self.assertEqual(made(number=six, amount=12), [1, 2, 3, 6])
        self.assertIs(All().shows(number=six), True)
        self.assertIs(Barred(4).shows(number=six), False)


class Refusals(Prompt):
    def test_no_number(self):
        for at, value in enumerate(NO_NUMBERS):
            with self.subTest(at=at):
                for door in (worth, divisors, total, told):
                    self.assertRaises(BadNumber, door, value)
                self.assertRaises(BadNumber, made, value, 0)

    def test_no_number_joined_in_either_place(self):
        for at, value in enumerate(NO_NUMBERS):
            with self.subTest(at=at):
                for number in ([], [(2, 1)], [(2, 499)]):
                    self.assertRaises(BadNumber, joined, value, number)
                    self.assertRaises(BadNumber, joined, number, value)
                self.assertRaises(BadNumber, joined, value, value)

    def test_bad_number_comes_before_too_many(self):
        self.assertRaises(TooMany, joined, [(2, 499)], [(2, 1)])
        self.assertRaises(BadNumber, joined, [(2, 499)], [(2, 1), (3, 0)])
        self.assertRaises(BadNumber, joined, [(2, 500)], [(2, 1)])
        self.assertRaises(BadNumber, joined, [(2, 1)], [(2, 500)])

    def test_too_many(self):
        self.assertRaises(TooMany, joined, [(2, 250)], [(2, 250)])
        self.assertRaises(TooMany, joined, [(2, 250)], [(3, 1)])
        self.assertRaises(TooMany, joined, [(3, 1)], [(2, 250)])
        self.assertRaises(TooMany, joined, [(2, 4), (3, 4)], [(5, 4), (7, 4)])
        self.assertRaises(TooMany, joined, [(2, 4), (3, 4), (5, 4), (7, 3)], [(7, 1)])
        self.assertRaises(TooMany, joined, [(2, 4), (3, 4), (5, 4), (7, 3)], [(997, 1)])
        self.assertRaises(TooMany, joined, [(p, 1) for p in PRIMES[:8]], [(p, 1) for p in PRIMES[8:16]])

    def test_bad_sum(self):
        for number in ([], [(2, 1)], [(2, 2), (3, 1)], [(2, 499)]):
            for at, amount in enumerate(NO_SUMS):
                with self.subTest(number=number, at=at):
                    self.assertRaises(BadSum, made, number, amount)
            self.assertRaises(BadSum, made, number, total(number) + 1)

    def test_bad_number_comes_before_bad_sum(self):
        for value in NO_NUMBERS:
            for amount in NO_SUMS:
                self.assertRaises(BadNumber, made, value, amount)

    def test_bad_sum_comes_before_not_all(self):
        for number in ([(3, 1)], [(2, 1), (5, 1)], [(997, 499)]):
            for amount in NO_SUMS:
                self.assertRaises(BadSum, made, number, amount)
            self.assertRaises(BadSum, made, number, total(number) + 1)

    def test_not_all(self):
        for number in ([(3, 1)], [(2, 1), (5, 1)], [(997, 1)], [(997, 499)]):
            for amount in (0, 1, 2, total(number) - 1, total(number)):
                self.assertRaises(NotAll, made, number, amount)

    def test_just_within(self):
        for number in JUST_WITHIN:
            with self.subTest(number=number):
                self.assertEqual(divisors(number)[-1], worth(number))
                self.assertEqual(sum(divisors(number)), total(number))
                self.assertEqual(joined(number, []), number)
                self.assertTrue(told(number).shows(number))
                if isinstance(told(number), All):
                    self.assertEqual(made(number, 0), [])
                    self.assertEqual(made(number, total(number)), divisors(number))

    def test_every_prime_and_nothing_else_is_let_by(self):
        for whole in range(-5, 1100):
            if whole in PRIMES:
                self.assertEqual(worth([(whole, 1)]), whole)
            else:
                self.assertRaises(BadNumber, worth, [(whole, 1)])

    def test_just_within_the_divisors_of_a_joined_number(self):
        self.assertEqual(joined([(2, 249)], [(2, 250)]), [(2, 499)])
        self.assertEqual(joined([(2, 4), (5, 4)], [(3, 4), (7, 3)]), [(2, 4), (3, 4), (5, 4), (7, 3)])


class Handed(unittest.TestCase):
    def test_nothing_handed_in_is_changed(self):
        for number in JUST_WITHIN + [[(2, 500)], [(3, 1), (2, 1)], [(2, 0)], [[2, 1]]]:
            before = copy.deepcopy(number)
            for ask in (worth, divisors, total, told, All().shows, Barred(3).shows,
                        lambda n: joined(n, n), lambda n: joined(n, []), lambda n: joined([], n),
                        lambda n: made(n, 1), lambda n: made(n, None)):
                try:
                    ask(number)
                except SumError:
                    pass
                self.assertEqual(number, before)

    def test_what_was_told_may_be_changed_and_asked_again(self):
        twelve = [(2, 2), (3, 1)]
        asks = ((lambda: divisors(twelve), [1, 2, 3, 4, 6, 12]), (lambda: made(twelve, 7), [1, 6]),
                (lambda: made(twelve, 28), [1, 2, 3, 4, 6, 12]), (lambda: made(twelve, 0), []),
                (lambda: joined(twelve, []), [(2, 2), (3, 1)]), (lambda: joined([], twelve), [(2, 2), (3, 1)]),
                (lambda: joined([], []), []), (lambda: divisors([]), [1]))
        for ask, expected in asks:
            first = ask()
            self.assertEqual(first, expected)
            first.append("changed")
            first[0] = "changed"
            self.assertEqual(ask(), expected)
        self.assertEqual(twelve, [(2, 2), (3, 1)])

    def test_what_was_handed_in_is_not_kept(self):
        number = [(2, 1), (5, 1)]
        answer = told(number)
        amount = answer.amount
        number[1] = (3, 1)
        self.assertEqual(answer.amount, amount)
        self.assertIs(answer.shows(number), False)
        self.assertIsInstance(told(number), All)
        self.assertEqual(divisors(number), [1, 2, 3, 6])

    def test_a_barred_that_was_told_may_be_changed_and_asked_again(self):
        first = told([(3, 1)])
        amount = first.amount
        first.amount = 99
        self.assertEqual(told([(3, 1)]).amount, amount)
        self.assertIsNot(told([(3, 1)]), first)
        self.assertIsNot(told([]), told([]))


if __name__ == "__main__":
    unittest.main()
