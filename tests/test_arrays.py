"""Points [20], [21], [22]: right-angled tables, the plans of them, mirrored plans and spun ones."""

import unittest
from inspect import signature
from itertools import combinations, product
from random import Random

from helper import full, is_whole, plainly_even_to
from trialfield.arrays import doubled, is_right, mirrored, of_prime, plan_of, spun
from trialfield.plans import even_to

TWO = [[1, 1], [1, -1]]
FOUR = [[1, 1, 1, -1], [1, 1, -1, 1], [1, -1, 1, 1], [-1, 1, 1, 1]]
PRIMES = (3, 7, 11, 19)


def plainly_right(rows):
    if any(len(row) != len(rows) or set(row) - {1, -1} for row in rows):
        return False
    return all(sum(a * b for a, b in zip(one, other)) == 0 for one, other in combinations(rows, 2))


def right_tables():
    """Of one row to forty, also with first numbers of -1, and with rows and columns in another order."""
    random = Random(20)
    tables = [[[1]], [[-1]], TWO, [[-1, 1], [1, 1]], [[-1, -1], [1, -1]], FOUR, doubled(FOUR), doubled(doubled(TWO))]
    tables += [of_prime(p) for p in PRIMES] + [doubled(of_prime(11)), doubled(of_prime(19)), doubled(doubled(FOUR))]
    for table in list(tables):
        order = random.sample(range(len(table)), len(table))
        factors = [random.choice([1, -1]) for row in table]
        tables.append([[row[k] * factor for k in order] for row, factor in zip(reversed(table), factors)])
    return tables


class IsRight(unittest.TestCase):
    def test_right_ones(self):
        for table in right_tables():
            self.assertTrue(plainly_right(table))
            self.assertIs(is_right(table), True)

    def test_a_row_too_many_or_too_few(self):
        for table in right_tables():
            self.assertIs(is_right(table + [table[0]]), False)
            self.assertIs(is_right(table + [[1] * len(table)]), False)
            self.assertIs(is_right([row + [1] for row in table]), False)
            if len(table) > 1:
                self.assertIs(is_right(table[1:]), False)
                self.assertIs(is_right(table[:-1]), False)
                self.assertIs(is_right([row[1:] for row in table]), False)

    def test_rows_of_unlike_count(self):
        self.assertIs(is_right([[1, 1], [1]]), False)
        self.assertIs(is_right([[1], [1, -1]]), False)
        self.assertIs(is_right([[1, 1], [1, -1, 1]]), False)
        self.assertIs(is_right([[1, 1, -1], [1, -1]]), False)
        self.assertIs(is_right([[]]), False)
        for table in right_tables():
            self.assertIs(is_right(table[:-1] + [table[-1] + [1]]), False)
            self.assertIs(is_right(table[:-1] + [table[-1][:-1]]), False)

    def test_numbers_other_than_1_and_less_1(self):
        for number in (0, 2, -2, 3, 10 ** 20 - 1):
            self.assertIs(is_right([[number]]), False)
            self.assertIs(is_right([[number, number], [number, -number]]), False)
            self.assertIs(is_right([[1, 1], [number, -number]]), False)
            self.assertIs(is_right([[number, number], [1, -1]]), False)
        self.assertIs(is_right([[1, 0], [0, 1]]), False)
        self.assertIs(is_right([[0, 1], [1, 0]]), False)
        for table in right_tables():
            self.assertIs(is_right(table[:-1] + [[2 * number for number in table[-1]]]), False)
            self.assertIs(is_right(table[:-1] + [[0] * len(table)]), False)

    def test_a_truth_is_no_number(self):
        self.assertIs(is_right([[True]]), False)
        self.assertIs(is_right([[1, True], [1, -1]]), False)

    def test_rows_not_at_right_angles(self):
        self.assertIs(is_right([[1, 1], [1, 1]]), False)
        self.assertIs(is_right([[1, -1], [-1, 1]]), False)
        for table in right_tables():
            if len(table) > 1:
                self.assertIs(is_right(table[:-1] + [table[0]]), False)
                self.assertIs(is_right([table[-1]] + table[1:]), False)
                self.assertIs(is_right(table[:-1] + [table[-1][:-1] + [-table[-1][-1]]]), False)

    def test_all_small_tables(self):
        rows = [list(row) for row in product((-1, 0, 1, 2), repeat=2)]
        for one, other in product(rows, repeat=2):
            self.assertIs(is_right([one, other]), plainly_right([one, other]))
        rows = [list(row) for row in product((1, -1), repeat=3)]
        for table in product(rows, repeat=3):
            self.assertIs(is_right(list(table)), False)

    def test_all_tables_of_four_rows_of_signs(self):
        rows = [list(row) for row in product((1, -1), repeat=4)]
        count = 0
        for table in product(rows, repeat=4):
            answer = is_right(list(table))
            self.assertIs(answer, plainly_right(table))
            count += answer
        self.assertEqual(count, 768)


class Doubled(unittest.TestCase):
    def test_examples(self):
        self.assertEqual(doubled([[1]]), [[1, 1], [1, -1]])
        self.assertEqual(doubled([[-1]]), [[-1, -1], [-1, 1]])
        self.assertEqual(
            doubled([[1, 1], [1, -1]]), [[1, 1, 1, 1], [1, -1, 1, -1], [1, 1, -1, -1], [1, -1, -1, 1]]
        )

    def test_row_by_row(self):
        for table in right_tables():
            answer = doubled(table)
            count = len(table)
            self.assertEqual(len(answer), 2 * count)
            for place, row in enumerate(table):
                self.assertEqual(answer[place], row + row)
                self.assertEqual(answer[count + place], row + [-number for number in row])
            self.assertIs(is_right(answer), True)

    def test_doubled_again(self):
        table = [[1]]
        for count in (2, 4, 8, 16, 32):
            table = doubled(table)
            self.assertEqual(len(table), count)
            self.assertTrue(plainly_right(table))
            for row, column in product(range(count), repeat=2):
                self.assertEqual(table[row][column], -1 if bin(row & column).count("1") % 2 else 1)


class OfPrime(unittest.TestCase):
    def test_one_more_row_than_the_prime(self):
        for p in PRIMES:
            table = of_prime(p)
            self.assertIsInstance(table, list)
            self.assertEqual(len(table), p + 1)
            for row in table:
                self.assertIsInstance(row, list)
                self.assertTrue(all(is_whole(number) for number in row))
            self.assertTrue(plainly_right(table))
            self.assertIs(is_right(table), True)


class PlanOf(unittest.TestCase):
    def test_examples(self):
        self.assertEqual(plan_of(TWO), [(0,), (1,)])
        self.assertEqual(plan_of([[-1, 1], [1, 1]]), [(1,), (0,)])
        self.assertEqual(plan_of([[-1, -1], [-1, 1]]), [(0,), (1,)])
        self.assertEqual(plan_of(FOUR), [(0, 0, 1), (0, 1, 0), (1, 0, 0), (1, 1, 1)])

    def test_rows_times_their_first_number(self):
        for table in right_tables():
            if len(table) > 1:
                steps = {1: 0, -1: 1}
                plan = [tuple(steps[row[0] * number] for number in row[1:]) for row in table]
                self.assertEqual(plan_of(table), plan)
                self.assertEqual(plan_of([[-number for number in row] for row in table]), plan)

    def test_trials_things_and_evenness(self):
        for table in right_tables():
            if len(table) > 1:
                plan = plan_of(table)
                self.assertIsInstance(plan, list)
                self.assertEqual(len(plan), len(table))
                for trial in plan:
                    self.assertIsInstance(trial, tuple)
                    self.assertEqual(len(trial), len(table) - 1)
                    self.assertTrue(all(is_whole(step) and step in (0, 1) for step in trial))
                t = min(2, len(table) - 1)
                self.assertTrue(plainly_even_to(plan, [2] * (len(table) - 1), t))
                if len(table) <= 20:
                    self.assertEqual(even_to(plan, [2] * (len(table) - 1), t), ("even",))


class Mirrored(unittest.TestCase):
    def test_examples(self):
        self.assertEqual(mirrored([(0,)]), [(0,), (1,)])
        self.assertEqual(mirrored([(0, 1), (1, 1)]), [(0, 1), (1, 1), (1, 0), (0, 0)])
        self.assertEqual(mirrored([(1, 0, 0)] * 2), [(1, 0, 0)] * 2 + [(0, 1, 1)] * 2)

    def test_its_trials_then_each_with_all_steps_exchanged(self):
        random = Random(21)
        for things, count in ((1, 1), (1, 5), (3, 4), (5, 9), (8, 150), (20, 1), (20, 75)):
            plan = [tuple(random.randrange(2) for thing in range(things)) for trial in range(count)]
            answer = mirrored(plan)
            self.assertIsInstance(answer, list)
            self.assertEqual(answer[:count], plan)
            self.assertEqual(len(answer), 2 * count)
            for trial, other in zip(plan, answer[count:]):
                self.assertIsInstance(other, tuple)
                self.assertTrue(all(is_whole(step) for step in other))
                self.assertEqual([a + b for a, b in zip(trial, other, strict=True)], [1] * things)

    def test_even_to_three_where_the_plan_is_even_to_two(self):
        half = [trial for trial in full([2, 2, 2]) if sum(trial) % 2 == 0]
        plans = [half, half * 2, full([2] * 3), full([2] * 4), full([2, 2, 2])[::-1]]
        plans += [plan_of(table) for table in right_tables() if 4 <= len(table) <= 24]
        for plan in plans:
            levels = [2] * len(plan[0])
            self.assertTrue(plainly_even_to(plan, levels, 2))
            self.assertTrue(plainly_even_to(mirrored(plan), levels, 3))
            if len(levels) < 20:
                self.assertEqual(even_to(mirrored(plan), levels, 3), ("even",))

    def test_a_plan_of_two_things_stays_even_to_two(self):
        self.assertTrue(plainly_even_to(mirrored(full([2, 2])), [2, 2], 2))


def plainly_spun(p, generators):
    return [
        tuple(sum(a * b for a, b in zip(rests, generator)) % p for generator in generators)
        for rests in full([p] * len(generators[0]))
    ]


def are_free(p, generators):
    """No sum of multiples is nought but that of noughts."""
    for factors in product(range(p), repeat=len(generators)):
        sums = [sum(f * g[k] for f, g in zip(factors, generators)) % p for k in range(len(generators[0]))]
        if any(factors) and not any(sums):
            return False
    return True


def any_are_free(p, generators, t):
    return all(are_free(p, list(chosen)) for chosen in combinations(generators, t))


def generator_lists(p, most):
    """Of noughts, alike, multiples of another, sums of multiples, free ones, and any."""
    random = Random(22 + p)
    lists = [[[0]], [[1]], [[p - 1], [1]], [[0], [1]]]
    if most > 1:
        lists += [[[1, 0], [0, 1]], [[1, 0], [1, 0]], [[0, 0], [0, 0]], [[1, 1], [p - 1, p - 1]], [[1, 0]], [[0, 1]]]
        lists += [[[1, 0], [0, 1], [1, 1]], [[1, 0], [0, 1], [1, p - 1]], [[1, factor] for factor in range(p)] + [[0, 1]]]
    if most > 2:
        lists += [[[1, 0, 0], [0, 1, 0], [0, 0, 1], [1, 1, 1]], [[1, 1, 0], [0, 1, 1], [1, 0, p - 1]]]
        lists += [[[1, 2 % p, 0], [2 % p, 4 % p, 0], [0, 0, 1]]]
    for k in range(1, most + 1):
        for count in (1, 2, 3, 4):
            lists += [[[random.randrange(p) for rest in range(k)] for generator in range(count)] for turn in range(4)]
    return lists


class Spun(unittest.TestCase):
    def test_examples(self):
        self.assertEqual(spun(2, [[1]]), [(0,), (1,)])
        self.assertEqual(spun(3, [[2]]), [(0,), (2,), (1,)])
        self.assertEqual(spun(5, [[0]]), [(0,)] * 5)
        self.assertEqual(spun(2, [[1, 0], [0, 1], [1, 1]]), [(0, 0, 0), (0, 1, 1), (1, 0, 1), (1, 1, 0)])
        self.assertEqual(
            spun(3, [[1, 0], [1, 2]]), [(0, 0), (0, 2), (0, 1), (1, 1), (1, 0), (1, 2), (2, 2), (2, 1), (2, 0)]
        )

    def test_trials_in_the_order_of_the_rests(self):
        for p, most in ((2, 4), (3, 4), (5, 3), (7, 2)):
            for generators in generator_lists(p, most):
                answer = spun(p, generators)
                self.assertIsInstance(answer, list)
                for trial in answer:
                    self.assertIsInstance(trial, tuple)
                    self.assertTrue(all(is_whole(step) for step in trial))
                self.assertEqual(answer, plainly_spun(p, generators))

    def test_even_to_t_just_where_any_t_generators_are_free(self):
        seen = []
        for p, most in ((2, 4), (3, 3), (5, 2), (7, 2)):
            for generators in generator_lists(p, most):
                levels = [p] * len(generators)
                for t in range(1, min(3, len(generators)) + 1):
                    free = any_are_free(p, generators, t)
                    self.assertEqual(plainly_even_to(spun(p, generators), levels, t), free)
                    self.assertEqual(even_to(spun(p, generators), levels, t) == ("even",), free)
                    seen.append((t, free))
        for t in (1, 2, 3):
            self.assertGreater(seen.count((t, True)), 5)
            self.assertGreater(seen.count((t, False)), 5)

    def test_greatest(self):
        random = Random(220)
        for p, k in ((2, 7), (3, 4), (5, 3), (7, 2)):
            generators = [[random.randrange(p) for rest in range(k)] for generator in range(8)]
            self.assertEqual(spun(p, generators), plainly_spun(p, generators))


class Interface(unittest.TestCase):
    def test_arguments(self):
        self.assertEqual(list(signature(is_right).parameters), ["rows"])
        self.assertEqual(list(signature(doubled).parameters), ["table"])
        self.assertEqual(list(signature(of_prime).parameters), ["p"])
        self.assertEqual(list(signature(plan_of).parameters), ["table"])
        self.assertEqual(list(signature(mirrored).parameters), ["plan"])
        self.assertEqual(list(signature(spun).parameters), ["p", "generators"])


if __name__ == "__main__":
    unittest.main()
