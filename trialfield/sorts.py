"""Sorts laid in blocks: whether each sort, and each two, stand in equally many, and blocks made of others."""


def rising_pairs(v):
    pairs = []
    for other in range(v):
        pairs.extend([(one, other) for one in range(other)])
    return pairs


def blocks_with(blocks, chosen):
    return len([block for block in blocks if all([sort in block for sort in chosen])])


# The first of the tuples of sorts and another that stands in unlike many blocks; or None.
def unlike_two(counts):
    tuples = list(counts)
    others = [chosen for chosen in tuples if counts[chosen] != counts[tuples[0]]]
    return (tuples[0], others[0]) if others else None


def counts_of(blocks, tuples):
    counts = {}
    for chosen in tuples:
        counts[chosen] = blocks_with(blocks, chosen)
    return counts


def pairs_told(v, blocks):
    single = counts_of(blocks, [(sort,) for sort in range(v)])
    paired = counts_of(blocks, rising_pairs(v))
    for counts in (single, paired):
        unlike = unlike_two(counts)
        if unlike is not None:
            return ("uneven",) + unlike
    # Of one sort there is no pair to ask for.
    return ("even", single[(0,)], paired.get((0, 1), 0))


def turned_by(v, block, a):
    return tuple(sorted([(sort + a) % v for sort in block]))


def turned(v, base):
    blocks = []
    for block in base:
        blocks.extend([turned_by(v, block, a) for a in range(v)])
    return blocks


def other_side(v, blocks):
    return [tuple([sort for sort in range(v) if sort not in block]) for block in blocks]
