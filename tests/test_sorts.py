"""Point [23]: blocks of sorts, whether they are even, base blocks turned, and the other side."""

import unittest
from collections import Counter
from inspect import signature
from itertools import combinations, combinations_with_replacement
from random import Random

from helper import is_whole
from trialfield.sorts import other_side, pairs_told, turned


def standing(blocks, chosen):
    return sum(1 for block in blocks if set(chosen) <= set(block))


def plainly_told(v, blocks):
    """("even", r, l), or None."""
    single = {standing(blocks, (sort,)) for sort in range(v)}
    paired = {standing(blocks, pair) for pair in combinations(range(v), 2)} or {0}
    if len(single) == 1 and len(paired) == 1:
        return ("even", min(single), min(paired))
    return None


# v and base blocks whose differences come equally often.
BASES = (
    (3, [(0, 1)]),
    (5, [(0, 1), (0, 2)]),
    (7, [(0, 1, 3)]),
    (7, [(3, 5, 6)]),
    (7, [(0, 1, 3), (0, 1, 5)]),
    (9, [(0, 1, 2, 4), (0, 3, 4, 7)]),
    (11, [(1, 3, 4, 5, 9)]),
    (13, [(0, 1, 3, 9)]),
    (13, [(0, 1, 4), (0, 2, 7)]),
    (4, [(0, 1, 2)]),
    (6, [(0, 1, 2, 3, 4)]),
    (2, [(1,)]),
    (1, [(0,)]),
    (8, [(5,)]),
    (5, [(0, 1, 2, 3, 4)]),
)


def plainly_turned(v, base):
    return [tuple(sorted((sort + a) % v for sort in block)) for block in base for a in range(v)]


def differences(v, base):
    """How often each difference that is not 0 comes, of all two sorts of one block, both ways."""
    counts = Counter((one - other) % v for block in base for one in block for other in block if one != other)
    return {counts[number] for number in range(1, v)}


def even_blocks():
    """v and blocks that are even: turned ones, all of one count, one sort each, all sorts, some more than once."""
    random = Random(23)
    cases = [(v, plainly_turned(v, base)) for v, base in BASES]
    for v in range(1, 8):
        for count in range(1, v + 1):
            cases.append((v, list(combinations(range(v), count))))
    cases += [(v, [tuple(range(v))] * count) for v in (1, 2, 5, 13) for count in (1, 3, 60)]
    cases += [(v, [(sort,) for sort in range(v)] * 2) for v in (1, 2, 6, 13)]
    cases += [(v, blocks * 2) for v, blocks in list(cases) if len(blocks) <= 30]
    return [(v, random.sample(blocks, len(blocks))) for v, blocks in cases if len(blocks) <= 60]


class PairsTold(unittest.TestCase):
    def assert_uneven(self, v, blocks):
        answer = pairs_told(v, blocks)
        self.assertIsInstance(answer, tuple)
        self.assertEqual((len(answer), answer[0]), (3, "uneven"))
        one, other = answer[1:]
        for chosen in (one, other):
            self.assertIsInstance(chosen, tuple)
            self.assertIn(len(chosen), (1, 2))
            self.assertTrue(all(is_whole(sort) and sort in range(v) for sort in chosen))
            self.assertEqual(list(chosen), sorted(set(chosen)))
        self.assertEqual(len(one), len(other))
        self.assertNotEqual(standing(blocks, one), standing(blocks, other))

    def assert_told(self, v, blocks):
        even = plainly_told(v, blocks)
        if even is None:
            self.assert_uneven(v, blocks)
            return "uneven"
        answer = pairs_told(v, blocks)
        self.assertIsInstance(answer, tuple)
        self.assertEqual(answer, even)
        self.assertTrue(is_whole(answer[1]) and is_whole(answer[2]))
        return "even"

    def test_examples(self):
        seven = [(0, 1, 3), (1, 2, 4), (2, 3, 5), (3, 4, 6), (0, 4, 5), (1, 5, 6), (0, 2, 6)]
        self.assertEqual(pairs_told(7, seven), ("even", 3, 1))
        self.assertEqual(pairs_told(7, seven[::-1]), ("even", 3, 1))
        self.assertEqual(pairs_told(7, seven + seven), ("even", 6, 2))
        self.assertEqual(pairs_told(3, [(0, 1), (1, 2), (0, 2)]), ("even", 2, 1))
        self.assertEqual(pairs_told(2, [(0, 1)] * 3), ("even", 3, 3))

    def test_one_sort(self):
        for count in (1, 2, 60):
            self.assertEqual(pairs_told(1, [(0,)] * count), ("even", count, 0))

    def test_two_sorts(self):
        self.assertEqual(pairs_told(2, [(0,), (1,)]), ("even", 1, 0))
        self.assertEqual(pairs_told(2, [(1,), (0,), (0,), (1,)]), ("even", 2, 0))
        self.assert_uneven(2, [(0,)])
        self.assert_uneven(2, [(1,)])
        self.assert_uneven(2, [(0,), (1,), (1,)])

    def test_blocks_of_one_sort_each(self):
        for v in range(2, 14):
            blocks = [(sort,) for sort in range(v)]
            self.assertEqual(pairs_told(v, blocks * 3), ("even", 3, 0))
            self.assert_uneven(v, blocks[1:])
            self.assert_uneven(v, blocks[:-1])
            self.assert_uneven(v, blocks + [(v // 2,)])

    def test_blocks_of_all_sorts(self):
        for v in range(2, 14):
            for count in (1, 4, 60):
                self.assertEqual(pairs_told(v, [tuple(range(v))] * count), ("even", count, count))

    def test_even_blocks(self):
        for v, blocks in even_blocks():
            self.assertIsNotNone(plainly_told(v, blocks))
            self.assertEqual(self.assert_told(v, blocks), "even")

    def test_a_block_more_or_less(self):
        for v, blocks in even_blocks():
            if len(blocks[0]) < v:
                self.assert_uneven(v, blocks + [blocks[0]])
                if len(blocks) > 1:
                    self.assert_uneven(v, blocks[1:])

    def test_sorts_even_and_pairs_not(self):
        self.assert_uneven(4, [(0, 1), (2, 3)])
        self.assert_uneven(4, [(0, 1), (1, 2), (2, 3), (0, 3)])
        self.assert_uneven(6, [(0, 1, 2), (3, 4, 5)] * 3)
        self.assert_uneven(7, plainly_turned(7, [(0, 1, 2)]))
        self.assert_uneven(13, plainly_turned(13, [(0, 1, 2, 3)]))
        self.assert_uneven(5, list(combinations(range(5), 2)) + plainly_turned(5, [(0, 1)]))

    def test_all_small_lists_of_blocks(self):
        seen = []
        for v in range(1, 5):
            for size in range(1, v + 1):
                kinds = list(combinations(range(v), size))
                for count in range(1, 6):
                    for blocks in combinations_with_replacement(kinds, count):
                        seen.append(self.assert_told(v, list(blocks)))
        self.assertGreater(seen.count("even"), 20)
        self.assertGreater(seen.count("uneven"), 500)

    def test_any_blocks(self):
        random = Random(230)
        for turn in range(200):
            v = random.randint(1, 13)
            size = random.randint(1, v)
            blocks = [tuple(sorted(random.sample(range(v), size))) for block in range(random.randint(1, 60))]
            self.assert_told(v, blocks)

    def test_even_blocks_are_at_least_as_many_as_sorts(self):
        for v in range(3, 6):
            for size in range(2, v):
                kinds = list(combinations(range(v), size))
                for count in range(1, v):
                    for blocks in combinations_with_replacement(kinds, count):
                        self.assert_uneven(v, list(blocks))
        for v, blocks in even_blocks():
            if 2 <= len(blocks[0]) < v:
                self.assertGreaterEqual(len(blocks), v)


class Turned(unittest.TestCase):
    def test_examples(self):
        self.assertEqual(
            turned(7, [(0, 1, 3)]), [(0, 1, 3), (1, 2, 4), (2, 3, 5), (3, 4, 6), (0, 4, 5), (1, 5, 6), (0, 2, 6)]
        )
        self.assertEqual(turned(3, [(2,), (0,)]), [(2,), (0,), (1,), (0,), (1,), (2,)])
        self.assertEqual(turned(4, [(0, 2)]), [(0, 2), (1, 3), (0, 2), (1, 3)])
        self.assertEqual(turned(1, [(0,), (0,)]), [(0,), (0,)])
        self.assertEqual(turned(3, [(0, 1, 2)]), [(0, 1, 2)] * 3)

    def test_in_order_and_rising(self):
        random = Random(231)
        cases = list(BASES)
        for turn in range(60):
            v = random.randint(1, 13)
            size = random.randint(1, v)
            cases.append((v, [tuple(sorted(random.sample(range(v), size))) for block in range(random.randint(1, 4))]))
        for v, base in cases:
            answer = turned(v, base)
            self.assertIsInstance(answer, list)
            for block in answer:
                self.assertIsInstance(block, tuple)
                self.assertTrue(all(is_whole(sort) for sort in block))
                self.assertEqual(list(block), sorted(set(block)))
            self.assertEqual(answer, plainly_turned(v, base))

    def test_differences_that_come_equally_often_turn_to_even_blocks(self):
        for v, base in BASES:
            self.assertLessEqual(len(differences(v, base)), 1)
            self.assertEqual(pairs_told(v, turned(v, base)), plainly_told(v, turned(v, base)))
            self.assertEqual(pairs_told(v, turned(v, base))[0], "even")

    def test_just_these_do(self):
        seen = []
        for v in range(2, 8):
            for size in range(1, v + 1):
                for base in combinations_with_replacement(list(combinations(range(v), size)), 2):
                    even = len(differences(v, base)) == 1
                    self.assertEqual(pairs_told(v, turned(v, list(base)))[0], "even" if even else "uneven")
                    seen.append(even)
        self.assertGreater(seen.count(True), 50)
        self.assertGreater(seen.count(False), 50)


class OtherSide(unittest.TestCase):
    def test_examples(self):
        self.assertEqual(other_side(2, [(0,), (1,), (0,)]), [(1,), (0,), (1,)])
        self.assertEqual(other_side(5, [(1, 3), (0, 4)]), [(0, 2, 4), (1, 2, 3)])
        self.assertEqual(other_side(4, [(1, 2, 3)]), [(0,)])

    def test_each_blocks_other_sorts_and_back(self):
        random = Random(232)
        for turn in range(80):
            v = random.randint(2, 13)
            size = random.randint(1, v - 1)
            blocks = [tuple(sorted(random.sample(range(v), size))) for block in range(random.randint(1, 60))]
            answer = other_side(v, blocks)
            self.assertIsInstance(answer, list)
            self.assertEqual(len(answer), len(blocks))
            for block, other in zip(blocks, answer):
                self.assertIsInstance(other, tuple)
                self.assertTrue(all(is_whole(sort) for sort in other))
                self.assertEqual(other, tuple(sorted(set(range(v)) - set(block))))
            self.assertEqual(other_side(v, answer), blocks)

    def test_of_even_blocks_it_is_even(self):
        for v, blocks in even_blocks():
            if len(blocks[0]) < v:
                name, r, l = pairs_told(v, blocks)
                apart = len(blocks) - 2 * r + l
                self.assertEqual(pairs_told(v, other_side(v, blocks)), ("even", len(blocks) - r, apart))


class Interface(unittest.TestCase):
    def test_arguments(self):
        self.assertEqual(list(signature(pairs_told).parameters), ["v", "blocks"])
        self.assertEqual(list(signature(turned).parameters), ["v", "base"])
        self.assertEqual(list(signature(other_side).parameters), ["v", "blocks"])


if __name__ == "__main__":
    unittest.main()
