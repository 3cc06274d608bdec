"""[10]: numbers by 97."""

import unittest

from sherdhall.errors import NoRest
from sherdhall.field import PRIME, minus, over, plus, power, times

LONG = int("123456789" * 6 + "123456")
NUMBERS = [0, 1, 2, 3, 48, 49, 95, 96, 97, 98, 194, 9700, -1, -2, -96, -97, -98, -970, LONG, -LONG, 10 ** 59, 1 - 10 ** 60]


class Numbers(unittest.TestCase):

    def told(self, number):
        self.assertIs(type(number), int)
        self.assertTrue(0 <= number <= 96)
        return number

    def test_prime(self):
        self.assertEqual(PRIME, 97)

    def test_plus_by_hand(self):
        self.assertEqual([plus(96, 1), plus(96, 96), plus(0, 0), plus(-1, 0), plus(97, 5)], [0, 95, 0, 96, 5])

    def test_minus_by_hand(self):
        self.assertEqual([minus(1, 2), minus(2, 1), minus(0, 97), minus(0, 0), minus(-1, 1)], [96, 1, 0, 0, 95])

    def test_times_by_hand(self):
        self.assertEqual([times(96, 96), times(-1, 1), times(97, 50), times(10, 10), times(0, 5)], [1, 96, 0, 3, 0])

    def test_over_by_hand(self):
        self.assertEqual([over(1, 2), over(1, 96), over(6, 3), over(0, 5), over(1, -1)], [49, 96, 2, 0, 96])

    def test_plus_minus_times_of_all_kinds_of_numbers(self):
        for one in NUMBERS:
            for other in NUMBERS:
                with self.subTest(one=one, other=other):
                    self.assertEqual(self.told(plus(one, other)), (one + other) % 97)
                    self.assertEqual(self.told(minus(one, other)), (one - other) % 97)
                    self.assertEqual(self.told(times(one, other)), (one * other) % 97)

    def test_over_of_all_kinds_of_numbers(self):
        for one in NUMBERS:
            for other in NUMBERS:
                if other % 97 != 0:
                    with self.subTest(one=one, other=other):
                        self.assertEqual(self.told(over(one, other)) * other % 97, one % 97)

    def test_over_of_all_rests(self):
        for one in range(97):
            for other in range(1, 97):
                self.assertEqual(times(self.told(over(one, other)), other), one)

    def test_over_refuses_what_has_no_rest(self):
        for number in (0, 97, -97, 9700, -194, 97 * LONG, -97 * LONG):
            for one in (0, 1, 97, -5, LONG):
                with self.subTest(one=one, number=number):
                    with self.assertRaises(NoRest) as caught:
                        over(one, number)
                    self.assertEqual(caught.exception.number, number)

    def test_power_of_all_kinds_of_numbers(self):
        for one in NUMBERS:
            product = 1
            for many in range(0, 201):
                with self.subTest(one=one, many=many):
                    self.assertEqual(self.told(power(one, many)), product)
                product = product * one % 97

    def test_power_of_many(self):
        for one in NUMBERS:
            for many in (96, 97, 192, 500, 767, 768, 999, 1000):
                with self.subTest(one=one, many=many):
                    self.assertEqual(self.told(power(one, many)), pow(one, many, 97))

    def test_power_of_none_is_1(self):
        for one in NUMBERS:
            self.assertEqual(power(one, 0), 1)

    def test_power_of_0(self):
        self.assertEqual([power(0, 0), power(0, 1), power(0, 2), power(0, 1000)], [1, 0, 0, 0])
        self.assertEqual([power(97, 0), power(-97, 0), power(97, 3)], [1, 1, 0])

    def test_asked_again_told_alike(self):
        for asked in (plus, minus, times, over, power):
            self.assertEqual(asked(50, 7), asked(50, 7))


if __name__ == "__main__":
    unittest.main()
