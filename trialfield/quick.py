"""Quick sums: the sums of a full plan's results with all contrasts at once, and back from sums to results."""

from trialfield.fracs import minus, over
from trialfield.telling import as_fractions


# The numbers at the steps of one thing, summed with each of its contrasts; 0 stands for 1 everywhere.
def contrast_sums(numbers):
    return [sum(numbers)] + [sum(numbers[:c]) - c * numbers[c] for c in range(1, len(numbers))]


# Of the steps up to c together, contrast c tells how much the last one lacks: the sum of all but
# it, less c times it. So the last step comes first, and what is ahead of it is left over.
def back_from_sums(sums):
    numbers = []
    ahead = sums[0]
    for c in range(len(sums) - 1, 0, -1):
        number = over(minus(ahead, sums[c]), (c + 1, 1))
        numbers.append(number)
        ahead = minus(ahead, number)
    numbers.append(ahead)
    return list(reversed(numbers))


# The first thing is worked out and comes to stand last; so, once each thing has had its turn,
# all of them stand in order again.
def thing_by_thing(levels, numbers, worked_out):
    for steps in levels:
        size = len(numbers) // steps
        made = []
        for place in range(size):
            made.extend(worked_out(numbers[place::size]))
        numbers = made
    return numbers


def sums_of(levels, results):
    return thing_by_thing(levels, results, contrast_sums)


def results_of(levels, sums):
    return thing_by_thing(levels, as_fractions(sums), back_from_sums)
