"""Points [10] to [14]: words, cuts by rules, what hides behind what, the least word, and blocks."""

import unittest
from collections import Counter
from inspect import signature
from itertools import product
from random import Random

from helper import is_whole
from trialfield.errors import NoEffect, TrialError
from trialfield.plans import even_to
from trialfield.words import block_of, comes_to, cut, hides, least_word, lost, span

SIZES = (
    (2, 1), (2, 2), (2, 3), (2, 4), (2, 5), (2, 7), (3, 1), (3, 2), (3, 3), (3, 4), (5, 1), (5, 2), (5, 3),
    (7, 1), (7, 2),
)


def tuples_of(p, n):
    return list(product(range(p), repeat=n))


def plainly_comes_to(p, word, trial):
    total = 0
    for place in range(len(word)):
        total += word[place] * trial[place]
    return total % p


def plain_sum(p, words, factors, n):
    return tuple(sum(f * word[place] for f, word in zip(factors, words)) % p for place in range(n))


def plain_span(p, n, words):
    """By all lists of factors, one for each word."""
    unlike = sorted(set(words))
    sums = {(0,) * n}
    while unlike:
        few, unlike = unlike[:2], unlike[2:]
        parts = [plain_sum(p, few, factors, n) for factors in tuples_of(p, len(few))]
        sums = {tuple((a + b) % p for a, b in zip(one, other)) for one in sums for other in parts}
    return sums


def nought(n):
    return (0,) * n


def word_lists(p, n):
    """No words, noughts, one word, and several, some of them sums of multiples of others."""
    random = Random(100 * p + n)
    words = tuples_of(p, n)
    lists = [[], [nought(n)], [(1,) * n], [words[-1], nought(n)], [nought(n)] * 8]
    for count in (1, 1, 2, 2, 3, 8):
        lists.append([random.choice(words) for place in range(count)])
    for count in (1, 2):
        few = [random.choice(words) for place in range(count)]
        sums = [plain_sum(p, few, [random.randrange(p) for word in few], n) for turn in range(3)]
        lists.append(sums[:1] + few + sums[1:] + few[:1])
    return lists


def all_word_lists(greatest=150):
    return [(p, n, words) for p, n in SIZES if p ** n <= greatest for words in word_lists(p, n)]


def ruled(p, n, words):
    """Rules with these words that can all be kept: they are, by some trial."""
    random = Random(len(words) + 7 * n + p)
    trial = random.choice(tuples_of(p, n))
    return [(word, plainly_comes_to(p, word, trial)) for word in words]


class WordTest(unittest.TestCase):
    def assert_words(self, words, p, n):
        self.assertIsInstance(words, list)
        for word in words:
            self.assertIsInstance(word, tuple)
            self.assertEqual(len(word), n)
            for rest in word:
                self.assertTrue(is_whole(rest))
                self.assertIn(rest, range(p))
        self.assertEqual(words, sorted(set(words)))


class ComesTo(unittest.TestCase):
    def test_examples(self):
        self.assertEqual(comes_to(2, (1, 1, 0), (1, 1, 1)), 0)
        self.assertEqual(comes_to(2, (1, 1, 1), (1, 1, 1)), 1)
        self.assertEqual(comes_to(3, (1, 2), (2, 2)), 0)
        self.assertEqual(comes_to(5, (3, 4), (2, 3)), 3)
        self.assertEqual(comes_to(7, (6,), (6,)), 1)

    def test_all_words_and_trials(self):
        for p, n in ((2, 1), (2, 3), (2, 5), (3, 2), (3, 3), (5, 2), (7, 1), (7, 2)):
            for word in tuples_of(p, n):
                for trial in tuples_of(p, n):
                    answer = comes_to(p, word, trial)
                    self.assertTrue(is_whole(answer))
                    self.assertEqual(answer, plainly_comes_to(p, word, trial))


class Span(WordTest):
    def test_examples(self):
        self.assertEqual(span(2, 3, [(1, 1, 0), (0, 1, 1)]), [(0, 0, 0), (0, 1, 1), (1, 0, 1), (1, 1, 0)])
        self.assertEqual(span(3, 2, [(1, 2)]), [(0, 0), (1, 2), (2, 1)])
        self.assertEqual(span(3, 2, [(1, 2), (2, 1)]), [(0, 0), (1, 2), (2, 1)])
        self.assertEqual(span(7, 1, [(3,)]), [(k,) for k in range(7)])

    def test_no_words(self):
        for p, n in SIZES:
            self.assertEqual(span(p, n, []), [nought(n)])

    def test_the_word_of_noughts(self):
        for p, n in SIZES:
            self.assertEqual(span(p, n, [nought(n)]), [nought(n)])
            self.assertEqual(span(p, n, [nought(n)] * 8), [nought(n)])

    def test_a_word_for_each_thing_spans_all(self):
        for p, n in SIZES:
            each = [tuple(int(k == place) for k in range(n)) for place in range(n)]
            self.assertEqual(span(p, n, each), tuples_of(p, n))

    def test_in_order_and_each_once(self):
        for p, n, words in all_word_lists():
            answer = span(p, n, words)
            self.assert_words(answer, p, n)
            self.assertEqual(set(answer), plain_span(p, n, words))

    def test_the_order_of_words_does_not_matter(self):
        for p, n, words in all_word_lists():
            self.assertEqual(span(p, n, words[::-1]), span(p, n, words))


class Cut(WordTest):
    def assert_cut(self, p, n, rules):
        answer = cut(p, n, rules)
        self.assert_words(answer, p, n)
        kept = [t for t in tuples_of(p, n) if all(plainly_comes_to(p, word, t) == rest for word, rest in rules)]
        self.assertEqual(answer, kept)
        return answer

    def test_examples(self):
        self.assertEqual(cut(2, 3, [((1, 1, 1), 0)]), [(0, 0, 0), (0, 1, 1), (1, 0, 1), (1, 1, 0)])
        self.assertEqual(cut(2, 3, [((1, 1, 1), 1)]), [(0, 0, 1), (0, 1, 0), (1, 0, 0), (1, 1, 1)])
        self.assertEqual(cut(3, 2, [((1, 2), 1)]), [(0, 2), (1, 0), (2, 1)])
        self.assertEqual(cut(5, 1, [((2,), 1)]), [(3,)])

    def test_no_rules(self):
        for p, n in SIZES:
            self.assertEqual(cut(p, n, []), tuples_of(p, n))

    def test_rules_of_noughts(self):
        for p, n in SIZES:
            self.assertEqual(cut(p, n, [(nought(n), 0)]), tuples_of(p, n))
            self.assertEqual(cut(p, n, [(nought(n), 1)]), [])

    def test_rules_that_cannot_all_be_kept(self):
        self.assertEqual(cut(2, 2, [((1, 1), 0), ((1, 1), 1)]), [])
        self.assertEqual(cut(3, 3, [((1, 1, 0), 1), ((2, 2, 0), 1)]), [])
        self.assertEqual(cut(2, 3, [((1, 1, 0), 1), ((0, 1, 1), 1), ((1, 0, 1), 1)]), [])
        self.assertEqual(cut(7, 2, [((1, 3), 2), ((0, 1), 0), ((1, 0), 3)]), [])

    def test_rules_that_can_be_kept(self):
        for p, n, words in all_word_lists():
            answer = self.assert_cut(p, n, ruled(p, n, words))
            self.assertEqual(len(answer) * len(plain_span(p, n, words)), p ** n)

    def test_any_rests(self):
        random = Random(11)
        for p, n, words in all_word_lists():
            self.assert_cut(p, n, [(word, random.randrange(p)) for word in words])


class Hides(WordTest):
    def plainly(self, p, n, words, effect):
        return {
            tuple((a + factor * b) % p for a, b in zip(word, effect))
            for word in plain_span(p, n, words)
            for factor in range(1, p)
        }

    def test_examples(self):
        self.assertEqual(hides(2, [(1, 1, 1)], (1, 0, 0)), [(0, 1, 1), (1, 0, 0)])
        self.assertEqual(hides(2, [], (1, 0, 1)), [(1, 0, 1)])
        self.assertEqual(hides(3, [], (0, 1)), [(0, 1), (0, 2)])
        self.assertEqual(hides(3, [(1, 1)], (0, 1)), [(0, 1), (0, 2), (1, 0), (1, 2), (2, 0), (2, 1)])

    def test_against_the_sums_one_by_one(self):
        for p, n, words in all_word_lists(50):
            within = plain_span(p, n, words)
            for effect in tuples_of(p, n):
                if effect in within:
                    continue
                answer = hides(p, words, effect)
                self.assert_words(answer, p, n)
                self.assertIn(effect, answer)
                self.assertEqual(set(answer), self.plainly(p, n, words, effect))
                self.assertEqual(len(answer), len(within) * (p - 1))

    def test_of_two_each_hides_behind_the_other_or_neither(self):
        for p, n, words in all_word_lists(30):
            within = plain_span(p, n, words)
            effects = [effect for effect in tuples_of(p, n) if effect not in within]
            behind = {effect: hides(p, words, effect) for effect in effects}
            for one in effects:
                self.assertFalse(set(behind[one]) & within)
                for other in behind[one]:
                    self.assertEqual(behind[other], behind[one])

    def test_a_word_of_the_span_is_refused(self):
        for p, n, words in all_word_lists():
            for effect in sorted(plain_span(p, n, words))[:30]:
                with self.assertRaises(NoEffect):
                    hides(p, words, effect)

    def test_the_word_of_noughts_is_refused(self):
        for p, n in SIZES:
            for words in ([], [nought(n)], [(1,) * n]):
                with self.assertRaises(NoEffect):
                    hides(p, words, nought(n))
        with self.assertRaises(TrialError):
            hides(2, [], (0, 0))

    def assert_parts(self, p, trials, one, other, alike):
        pairs = Counter((comes_to(p, one, trial), comes_to(p, other, trial)) for trial in trials)
        if alike:
            self.assertEqual(len({a for a, b in pairs}), len(pairs))
            self.assertEqual(len({b for a, b in pairs}), len(pairs))
        else:
            self.assertEqual(sorted(pairs), tuples_of(p, 2))
            self.assertEqual(len(set(pairs.values())), 1)

    def test_on_a_cut_effects_part_the_trials_alike_just_where_they_hide(self):
        for p, n, words in all_word_lists(49):
            trials = cut(p, n, ruled(p, n, words))
            self.assertNotEqual(trials, [])
            within = plain_span(p, n, words)
            effects = [effect for effect in tuples_of(p, n) if effect not in within]
            for one in effects[:16]:
                behind = hides(p, words, one)
                for other in effects:
                    self.assert_parts(p, trials, one, other, other in behind)


class LeastWord(WordTest):
    def places(self, word):
        return sum(1 for rest in word if rest)

    def test_none(self):
        for p, n in SIZES:
            for words in ([], [nought(n)], [nought(n)] * 8):
                self.assertEqual(least_word(p, n, words), ("none",))

    def test_examples(self):
        self.assertEqual(least_word(2, 4, [(1, 1, 1, 1)]), ("least", (1, 1, 1, 1)))
        self.assertEqual(least_word(2, 5, [(1, 1, 0, 0, 0), (0, 1, 1, 1, 1)]), ("least", (1, 1, 0, 0, 0)))
        self.assertEqual(least_word(2, 4, [(1, 1, 1, 0), (1, 1, 1, 1)]), ("least", (0, 0, 0, 1)))
        self.assertEqual(least_word(3, 3, [(1, 1, 1), (1, 1, 2)])[1][:2], (0, 0))

    def test_none_of_the_span_has_fewer_places(self):
        for p, n, words in all_word_lists():
            within = plain_span(p, n, words) - {nought(n)}
            answer = least_word(p, n, words)
            self.assertIsInstance(answer, tuple)
            if not within:
                self.assertEqual(answer, ("none",))
                continue
            self.assertEqual((len(answer), answer[0]), (2, "least"))
            self.assert_words([answer[1]], p, n)
            self.assertIn(answer[1], within)
            self.assertEqual(self.places(answer[1]), min(self.places(word) for word in within))

    def test_a_cut_is_even_just_below_the_places_of_the_least_word(self):
        for p, n, words in all_word_lists():
            trials = cut(p, n, ruled(p, n, words))
            answer = least_word(p, n, words)
            for t in range(1, n + 1):
                even = answer == ("none",) or self.places(answer[1]) > t
                self.assertEqual(even_to(trials, [p] * n, t) == ("even",), even, (p, n, words, t))


class Blocks(WordTest):
    def test_examples(self):
        self.assertEqual(block_of(2, [(1, 1, 0), (0, 1, 1)], (1, 0, 1)), (1, 1))
        self.assertEqual(block_of(3, [(1, 2)], (2, 2)), (0,))
        self.assertEqual(block_of(5, [(1, 2), (1, 2), (0, 0)], (1, 3)), (2, 2, 0))
        self.assertEqual(lost(2, 3, [], [(1, 1, 0), (0, 1, 1)]), [(0, 1, 1), (1, 0, 1), (1, 1, 0)])
        self.assertEqual(lost(2, 3, [(1, 1, 1)], [(1, 1, 0)]), [(0, 0, 1), (1, 1, 0)])
        self.assertEqual(lost(3, 2, [], [(1, 1)]), [(1, 1), (2, 2)])

    def test_no_block_words(self):
        for p, n, words in all_word_lists():
            self.assertEqual(lost(p, n, words, []), [])
        self.assertEqual(block_of(2, [], (0, 1, 1)), ())

    def test_block_words_in_the_span_of_the_words(self):
        for p, n, words in all_word_lists():
            within = sorted(plain_span(p, n, words))
            self.assertEqual(lost(p, n, words, within[-8:]), [])
            self.assertEqual(lost(p, n, words, words), [])

    def pairs_of_lists(self):
        for p, n in SIZES:
            lists = word_lists(p, n)
            for place, words in enumerate(lists):
                yield p, n, words, lists[(place * 5 + 3) % len(lists)]
                yield p, n, [], words

    def test_the_block_of_each_trial_of_a_cut(self):
        for p, n, words, block_words in self.pairs_of_lists():
            for trial in cut(p, n, ruled(p, n, words)):
                answer = block_of(p, block_words, trial)
                self.assertIsInstance(answer, tuple)
                self.assertTrue(all(is_whole(rest) for rest in answer))
                self.assertEqual(answer, tuple(plainly_comes_to(p, word, trial) for word in block_words))

    def test_what_is_lost_is_in_the_one_span_and_not_in_the_other(self):
        for p, n, words, block_words in self.pairs_of_lists():
            answer = lost(p, n, words, block_words)
            self.assert_words(answer, p, n)
            both = plain_span(p, n, list(words) + list(block_words))
            self.assertEqual(set(answer), both - plain_span(p, n, words))

    def test_what_is_lost_is_the_same_within_each_block_and_not_in_the_whole_cut(self):
        for p, n, words, block_words in self.pairs_of_lists():
            blocks = {}
            trials = cut(p, n, ruled(p, n, words))
            for trial in trials:
                blocks.setdefault(block_of(p, block_words, trial), []).append(trial)
            found = []
            for word in tuples_of(p, n):
                within = all(len({comes_to(p, word, t) for t in block}) == 1 for block in blocks.values())
                if within and len({comes_to(p, word, trial) for trial in trials}) > 1:
                    found.append(word)
            self.assertEqual(lost(p, n, words, block_words), found)


class Interface(unittest.TestCase):
    def test_arguments(self):
        self.assertEqual(list(signature(comes_to).parameters), ["p", "word", "trial"])
        self.assertEqual(list(signature(span).parameters), ["p", "n", "words"])
        self.assertEqual(list(signature(cut).parameters), ["p", "n", "rules"])
        self.assertEqual(list(signature(hides).parameters), ["p", "words", "effect"])
        self.assertEqual(list(signature(least_word).parameters), ["p", "n", "words"])
        self.assertEqual(list(signature(block_of).parameters), ["p", "block_words", "trial"])
        self.assertEqual(list(signature(lost).parameters), ["p", "n", "words", "block_words"])


if __name__ == "__main__":
    unittest.main()
