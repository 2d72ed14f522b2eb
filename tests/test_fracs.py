"""Point [4]: fractions and the four reckonings."""

import operator
import unittest
from fractions import Fraction
from inspect import signature
from math import gcd
from random import Random

from helper import exact, is_fraction, told
from trialfield.fracs import fraction, minus, over, plus, times

RECKONINGS = (
    (plus, operator.add),
    (minus, operator.sub),
    (times, operator.mul),
    (over, operator.truediv),
)


def long_number(random, figures):
    return random.randint(10 ** (figures - 1), 10 ** figures - 1) * random.choice([1, -1])


def small_fractions():
    return sorted({told(Fraction(top, bottom)) for top in range(-6, 7) for bottom in range(1, 7)})


def long_fractions():
    random = Random(4)
    made = [told(0), told(1), told(-1), told(long_number(random, 20))]
    for figures in (1, 5, 20, 40, 40):
        made.append(told(Fraction(long_number(random, figures), long_number(random, figures))))
    bottom = long_number(random, 40)
    made.append(told(Fraction(1, bottom)))
    made.append(told(Fraction(-1, bottom)))
    made.append(told(Fraction(2, bottom)))
    return made


class Made(unittest.TestCase):
    def assert_made(self, top, bottom):
        answer = fraction(top, bottom)
        self.assertTrue(is_fraction(answer), (top, bottom, answer))
        self.assertEqual(answer, told(Fraction(top, bottom)))

    def test_examples(self):
        self.assertEqual(fraction(6, 4), (3, 2))
        self.assertEqual(fraction(-6, 4), (-3, 2))
        self.assertEqual(fraction(6, -4), (-3, 2))
        self.assertEqual(fraction(-6, -4), (3, 2))
        self.assertEqual(fraction(7, 7), (1, 1))
        self.assertEqual(fraction(8, -2), (-4, 1))
        self.assertEqual(fraction(3, 9), (1, 3))

    def test_nought_is_told_in_one_way(self):
        for bottom in (1, -1, 2, -2, 30, 10 ** 19, -(10 ** 19), 10 ** 39, -(10 ** 39)):
            answer = fraction(0, bottom)
            self.assertEqual(answer, (0, 1))
            self.assertTrue(is_fraction(answer))

    def test_all_small_tops_and_bottoms(self):
        for top in range(-30, 31):
            for bottom in range(-30, 31):
                if bottom != 0:
                    self.assert_made(top, bottom)

    def test_long_tops_and_bottoms(self):
        random = Random(40)
        for figures in (20, 40, 41):
            for turn in range(100):
                top = long_number(random, figures)
                bottom = long_number(random, random.choice([1, 7, figures]))
                self.assert_made(top, bottom)
                self.assert_made(bottom, top)

    def test_long_common_divisors(self):
        random = Random(41)
        for turn in range(100):
            divisor = long_number(random, 20)
            self.assert_made(divisor * long_number(random, 3), divisor * long_number(random, 20))
            self.assertEqual(fraction(divisor, divisor), (1, 1))
            self.assertEqual(fraction(divisor, -divisor), (-1, 1))


class Reckoned(unittest.TestCase):
    def assert_reckoned(self, one, other):
        for reckoning, plain in RECKONINGS:
            if reckoning == over and other[0] == 0:
                continue
            answer = reckoning(one, other)
            self.assertTrue(is_fraction(answer), (reckoning, one, other, answer))
            self.assertEqual(exact(answer), plain(exact(one), exact(other)), (reckoning, one, other))

    def test_examples(self):
        self.assertEqual(plus((1, 2), (1, 3)), (5, 6))
        self.assertEqual(plus((1, 6), (1, 3)), (1, 2))
        self.assertEqual(minus((1, 2), (1, 3)), (1, 6))
        self.assertEqual(minus((1, 3), (1, 2)), (-1, 6))
        self.assertEqual(times((2, 3), (3, 4)), (1, 2))
        self.assertEqual(over((1, 2), (3, 4)), (2, 3))
        self.assertEqual(over((3, 4), (1, 2)), (3, 2))
        self.assertEqual(over((1, 2), (-3, 4)), (-2, 3))
        self.assertEqual(over((-1, 2), (-3, 4)), (2, 3))

    def test_all_pairs_of_small_ones(self):
        made = small_fractions()
        for one in made:
            for other in made:
                self.assert_reckoned(one, other)

    def test_all_pairs_of_long_ones(self):
        made = long_fractions()
        for one in made:
            for other in made:
                self.assert_reckoned(one, other)

    def test_nought(self):
        nought = (0, 1)
        for one in small_fractions() + long_fractions():
            self.assertEqual(plus(one, nought), one)
            self.assertEqual(plus(nought, one), one)
            self.assertEqual(minus(one, nought), one)
            self.assertEqual(minus(nought, one), (-one[0], one[1]))
            self.assertEqual(minus(one, one), nought)
            self.assertEqual(plus(one, (-one[0], one[1])), nought)
            self.assertEqual(times(one, nought), nought)
            self.assertEqual(times(nought, one), nought)
            if one != nought:
                self.assertEqual(over(nought, one), nought)
                self.assertEqual(over(one, one), (1, 1))

    def test_exchanged(self):
        made = small_fractions() + long_fractions()
        for one in made:
            for other in made:
                self.assertEqual(plus(one, other), plus(other, one))
                self.assertEqual(times(one, other), times(other, one))
                back = minus(other, one)
                self.assertEqual(minus(one, other), (-back[0], back[1]))
                if one[0] != 0 and other[0] != 0:
                    self.assertEqual(times(over(one, other), over(other, one)), (1, 1))

    def test_no_common_divisor_is_left(self):
        random = Random(44)
        shared = long_number(random, 20)
        one = told(Fraction(shared, long_number(random, 20)))
        other = told(Fraction(long_number(random, 20), shared))
        for answer in (times(one, other), times(other, one)):
            self.assertEqual(gcd(answer[0], answer[1]), 1)
            self.assertEqual(exact(answer), exact(one) * exact(other))


class Interface(unittest.TestCase):
    def test_arguments(self):
        self.assertEqual(list(signature(fraction).parameters), ["top", "bottom"])
        for reckoning, plain in RECKONINGS:
            self.assertEqual(list(signature(reckoning).parameters), ["one", "other"])


if __name__ == "__main__":
    unittest.main()
