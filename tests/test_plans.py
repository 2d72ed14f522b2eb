"""Points [7], [8], [9]: all trials, how even a plan is, and the least trials of an even one."""

import unittest
from collections import Counter
from inspect import signature
from itertools import combinations
from math import prod
from random import Random

from helper import full, is_whole, plainly_even_to
from trialfield.plans import all_trials, even_to, least_trials

SOME_LEVELS = (
    [2], [3], [7], [2, 2], [2, 3], [3, 2], [7, 7], [2, 3, 4], [5, 2, 3], [4, 2, 2, 2], [2, 2, 2, 2, 2], [3, 3, 3, 3],
)


def by_two(rows, generators):
    """The plan of two steps with a trial for each of all lists of so many rests."""
    return [
        tuple(sum(a * b for a, b in zip(row, generator)) % 2 for generator in generators) for row in full([2] * rows)
    ]


def half(things):
    """Even to all but the last number of columns: the sum of each trial is even."""
    return [trial for trial in full([2] * things) if sum(trial) % 2 == 0]


def twelve_trials():
    """Eleven things of two steps, even to two columns, and no cut by words."""
    squares = {k * k % 11 for k in range(1, 11)}
    turned = [tuple(int((column + row) % 11 in squares) for column in range(11)) for row in range(11)]
    return turned + [(1,) * 11]


def four_and_two():
    """A thing of four steps and four of two, eight trials, even to two columns."""
    return [(2 * a + b, c, (a + c) % 2, (b + c) % 2, (a + b + c) % 2) for a, b, c in full([2, 2, 2])]


def free_by_three(things):
    """Two to the sixth trials, even to three columns: any three generators are free of one another."""
    return by_two(6, [(1,) + generator for generator in full([2] * 5)][:things])


class AllTrials(unittest.TestCase):
    def assert_all(self, levels):
        answer = all_trials(levels)
        self.assertIsInstance(answer, list)
        self.assertEqual(len(answer), prod(levels))
        self.assertEqual(answer, full(levels))
        self.assertEqual(answer, sorted(set(answer)))
        for trial in answer:
            self.assertIsInstance(trial, tuple)
            self.assertTrue(all(is_whole(step) for step in trial))

    def test_examples(self):
        self.assertEqual(all_trials([2]), [(0,), (1,)])
        self.assertEqual(all_trials([2, 3]), [(0, 0), (0, 1), (0, 2), (1, 0), (1, 1), (1, 2)])
        self.assertEqual(all_trials([3, 2]), [(0, 0), (0, 1), (1, 0), (1, 1), (2, 0), (2, 1)])

    def test_one_thing(self):
        for steps in range(2, 8):
            self.assert_all([steps])

    def test_several_things(self):
        for levels in SOME_LEVELS:
            self.assert_all(list(levels))

    def test_up_to_the_greatest_product(self):
        for levels in ([2, 3, 5, 5], [5, 5, 6], [6, 5, 5], [7, 7, 3], [2] * 7, [2, 2, 2, 2, 3, 3], [3, 7, 7], [2] * 8):
            self.assert_all(levels)


class EvenTo(unittest.TestCase):
    def assert_uneven(self, plan, levels, t):
        answer = even_to(plan, levels, t)
        self.assertIsInstance(answer, tuple)
        self.assertEqual((len(answer), answer[0]), (4, "uneven"))
        columns, one, other = answer[1:]
        self.assertIsInstance(columns, list)
        self.assertEqual(len(columns), t)
        self.assertTrue(all(is_whole(column) for column in columns))
        self.assertEqual(columns, sorted(set(columns)))
        self.assertTrue(set(columns) <= set(range(len(levels))))
        for choice in (one, other):
            self.assertIsInstance(choice, tuple)
            self.assertEqual(len(choice), t)
            for column, step in zip(columns, choice):
                self.assertTrue(is_whole(step))
                self.assertIn(step, range(levels[column]))
        counts = Counter(tuple(trial[column] for column in columns) for trial in plan)
        self.assertNotEqual(counts[one], counts[other])

    def assert_told(self, plan, levels, t):
        if plainly_even_to(plan, levels, t):
            self.assertEqual(even_to(plan, levels, t), ("even",))
        else:
            self.assert_uneven(plan, levels, t)

    def assert_even_just_to(self, plan, levels, most):
        for t in range(1, len(levels) + 1):
            if t <= most:
                self.assertEqual(even_to(plan, levels, t), ("even",))
            else:
                self.assert_uneven(plan, levels, t)

    def test_full_plans_are_even_to_all_columns(self):
        for levels in SOME_LEVELS + ([2] * 7, [5, 5, 6], [2, 3, 5, 5]):
            self.assert_even_just_to(full(levels), levels, len(levels))

    def test_order_does_not_matter(self):
        random = Random(8)
        for levels in SOME_LEVELS:
            plan = full(levels)
            random.shuffle(plan)
            self.assert_even_just_to(plan, levels, len(levels))
        plan = half(5)
        random.shuffle(plan)
        self.assert_even_just_to(plan, [2] * 5, 4)

    def test_trials_more_than_once(self):
        for levels in SOME_LEVELS:
            plan = full(levels)
            if len(plan) > 70:
                continue
            self.assert_even_just_to(plan + plan, levels, len(levels))
            self.assert_even_just_to(plan + plan[:1], levels, 0)
        self.assert_even_just_to(half(4) * 3, [2] * 4, 3)
        self.assert_even_just_to(full([2] * 3) + half(3), [2] * 3, 2)

    def test_even_to_some_and_not_to_the_next(self):
        for things in range(2, 9):
            self.assert_even_just_to(half(things), [2] * things, things - 1)
        self.assert_even_just_to(twelve_trials(), [2] * 11, 2)
        self.assert_even_just_to(by_two(3, full([2] * 3)[1:]), [2] * 7, 2)
        self.assert_even_just_to(free_by_three(8), [2] * 8, 3)
        squares = [(a, b, (a + b) % 3, (a + 2 * b) % 3) for a, b in full([3, 3])]
        self.assert_even_just_to(squares, [3] * 4, 2)
        sevens = [(a, b) + tuple((a + k * b) % 7 for k in range(1, 7)) for a, b in full([7, 7])]
        self.assert_even_just_to(sevens, [7] * 8, 2)

    def test_uneven_in_one_column(self):
        self.assert_even_just_to([(0,)], [2], 0)
        self.assert_even_just_to([(0,), (1,), (1,)], [2], 0)
        self.assert_even_just_to([(0, 0), (1, 1), (0, 1)], [2, 2], 0)
        self.assert_even_just_to([(0, 0, 1), (1, 0, 0)], [2, 2, 2], 0)
        self.assert_even_just_to([(a, b, 0) for a, b in full([3, 2])], [3, 2, 2], 0)

    def test_only_the_last_columns_are_uneven(self):
        plan = [(a, b, c, d, c) for a, b, c, d in full([2, 2, 2, 2])]
        self.assert_even_just_to(plan, [2] * 5, 1)
        plan = [(a, b, c, d, (b + c + d) % 2) for a, b, c, d in full([2, 2, 2, 2])]
        self.assert_even_just_to(plan, [2] * 5, 3)

    def test_one_trial(self):
        for levels in SOME_LEVELS + ([7] * 8, [2] * 20):
            self.assert_even_just_to([(1,) * len(levels)], levels, 0)

    def test_a_choice_that_comes_in_no_trial(self):
        self.assert_even_just_to([(0, 0), (1, 1), (2, 0), (0, 1), (1, 0), (2, 1)], [3, 3], 0)
        self.assert_even_just_to([(0, 0), (1, 1)], [2, 2], 1)
        self.assert_even_just_to([(a, a) for a in range(7)], [7, 7], 1)
        missing = [trial for trial in full([2, 3, 4]) if trial != (1, 2, 3)]
        self.assert_even_just_to(missing, [2, 3, 4], 0)

    def test_all_that_come_come_equally_often_but_not_all_come(self):
        plan = [(a, b) for a, b in full([3, 3]) if a != b]
        self.assert_even_just_to(plan, [3, 3], 1)
        self.assert_even_just_to([(0, 0), (1, 1), (2, 2), (3, 3), (4, 4), (5, 5)], [6, 7], 0)

    def test_unlike_steps(self):
        self.assert_even_just_to(four_and_two(), [4, 2, 2, 2, 2], 2)
        self.assert_even_just_to([(a, b, (a + b) % 2) for a, b in full([2, 6])], [2, 6, 2], 2)
        self.assert_even_just_to(full([2, 3]) * 5, [2, 3], 2)
        self.assert_even_just_to([(a % 2, a % 3, a % 5) for a in range(30)], [2, 3, 5], 3)
        self.assert_even_just_to([(a % 2, a % 4, a % 5) for a in range(20)], [2, 4, 5], 1)

    def test_many_plans_against_counting(self):
        random = Random(88)
        for turn in range(200):
            levels = [random.randint(2, 4) for thing in range(random.randint(1, 4))]
            parts = full(levels)
            plan = [random.choice(parts) for trial in range(random.randint(1, 40))]
            if turn % 2:
                plan += parts[:150 - len(plan)]
            for t in range(1, len(levels) + 1):
                self.assert_told(plan, levels, t)

    def test_plans_one_step_off_an_even_one(self):
        for plan, levels in ((half(4), [2] * 4), (four_and_two(), [4, 2, 2, 2, 2]), (full([3, 2, 2]), [3, 2, 2])):
            for row in range(len(plan)):
                for thing in range(len(levels)):
                    trial = list(plan[row])
                    trial[thing] = (trial[thing] + 1) % levels[thing]
                    changed = plan[:row] + [tuple(trial)] + plan[row + 1:]
                    self.assert_even_just_to(changed, levels, 0)

    def test_twenty_things_of_two_steps(self):
        levels = [2] * 20
        self.assert_even_just_to(by_two(5, full([2] * 5)[1:21]), levels, 2)
        self.assert_even_just_to(free_by_three(20), levels, 3)
        self.assert_even_just_to([(0,) * 20, (1,) * 20], levels, 1)
        random = Random(20)
        plan = [tuple(random.randint(0, 1) for thing in range(20)) for trial in range(150)]
        for t in range(1, 21):
            self.assert_uneven(plan, levels, t)

    def test_greatest_steps_and_things(self):
        random = Random(78)
        plan = [tuple(random.randrange(7) for thing in range(8)) for trial in range(150)]
        for t in range(1, 9):
            self.assert_uneven(plan, [7] * 8, t)


class LeastTrials(unittest.TestCase):
    def plainly(self, levels, u):
        sets = [chosen for count in range(u + 1) for chosen in combinations(range(len(levels)), count)]
        return sum(prod(levels[thing] - 1 for thing in chosen) for chosen in sets)

    def test_for_none(self):
        for levels in SOME_LEVELS + ([7] * 8,):
            self.assertEqual(least_trials(levels, 0), 1)

    def test_for_one(self):
        self.assertEqual(least_trials([2], 1), 2)
        self.assertEqual(least_trials([2] * 8, 1), 9)
        self.assertEqual(least_trials([2, 3, 4], 1), 7)
        self.assertEqual(least_trials([7] * 8, 1), 49)

    def test_for_all_it_is_the_product(self):
        for levels in SOME_LEVELS + ([7] * 8, [2, 3, 4, 5, 6, 7, 2, 3]):
            self.assertEqual(least_trials(levels, len(levels)), prod(levels))

    def test_between(self):
        self.assertEqual(least_trials([2] * 5, 2), 16)
        self.assertEqual(least_trials([2, 3, 4], 2), 18)
        for levels in SOME_LEVELS + ([7] * 8, [2, 3, 4, 5, 6, 7, 2, 3]):
            for u in range(len(levels) + 1):
                answer = least_trials(levels, u)
                self.assertTrue(is_whole(answer))
                self.assertEqual(answer, self.plainly(levels, u))

    def test_even_plans_have_so_many_trials(self):
        plans = [(full(levels), levels) for levels in SOME_LEVELS]
        plans += [(half(things), [2] * things) for things in range(2, 9)]
        plans += [(twelve_trials(), [2] * 11), (four_and_two(), [4, 2, 2, 2, 2]), (free_by_three(20), [2] * 20)]
        reached = 0
        for plan, levels in plans:
            for u in range(1, len(levels) // 2 + 1):
                if even_to(plan, levels, 2 * u) == ("even",):
                    self.assertGreaterEqual(len(plan), least_trials(levels, u))
                    reached += len(plan) == least_trials(levels, u)
        self.assertGreater(reached, 2)


class Interface(unittest.TestCase):
    def test_arguments(self):
        self.assertEqual(list(signature(all_trials).parameters), ["levels"])
        self.assertEqual(list(signature(even_to).parameters), ["plan", "levels", "t"])
        self.assertEqual(list(signature(least_trials).parameters), ["levels", "u"])


if __name__ == "__main__":
    unittest.main()
