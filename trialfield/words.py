"""Words: how they cut plans of things of p steps, what hides behind what then, and blocks.

p is a prime; a word is a tuple of rests by p, one for each thing.
"""

from trialfield.errors import NoEffect
from trialfield.plans import all_trials


def comes_to(p, word, trial):
    return sum([rest * step for rest, step in zip(word, trial)]) % p


def nought_word(n):
    return (0,) * n


def multiple_put_to(p, word, factor, other):
    return tuple([(one + factor * two) % p for one, two in zip(word, other)])


# The sums of each of the words and each of the factors' multiples of the other word.
def multiples_put_to(p, words, factors, other):
    made = []
    for factor in factors:
        made.extend([multiple_put_to(p, word, factor, other) for word in words])
    return made


def span(p, n, words):
    members = [nought_word(n)]
    for word in words:
        # A word that is there already brings nothing new; any other one only new sums, each once.
        if word not in members:
            members = multiples_put_to(p, members, list(range(p)), word)
    return sorted(members)


def keeps(p, rules, trial):
    return all([comes_to(p, word, trial) == rest for word, rest in rules])


def cut(p, n, rules):
    return [trial for trial in all_trials([p] * n) if keeps(p, rules, trial)]


def hides(p, words, effect):
    members = span(p, len(effect), words)
    if effect in members:
        raise NoEffect(f"{effect!r} is in the span of the words")
    return sorted(multiples_put_to(p, members, list(range(1, p)), effect))


def places_of(word):
    return len([rest for rest in word if rest != 0])


def least_word(p, n, words):
    members = [word for word in span(p, n, words) if word != nought_word(n)]
    if not members:
        return ("none",)
    return ("least", min(members, key=places_of))


def block_of(p, block_words, trial):
    return tuple([comes_to(p, word, trial) for word in block_words])


def lost(p, n, words, block_words):
    kept = span(p, n, words)
    return [word for word in span(p, n, words + block_words) if word not in kept]
