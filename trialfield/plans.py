"""Plans: lists of trials, how even they are in their columns, and how many trials an even one needs."""


def product_of(numbers):
    product = 1
    for number in numbers:
        product = product * number
    return product


# The trial that stands at the place, from 0 on, among all trials of the levels in order: so one
# trial is there without making all of them, which for many things are too many to make.
def trial_at(levels, place):
    steps = []
    for count in reversed(levels):
        steps.append(place % count)
        place = place // count
    return tuple(reversed(steps))


def all_trials(levels):
    return [trial_at(levels, place) for place in range(product_of(levels))]


def choice_of(trial, columns):
    return tuple([trial[column] for column in columns])


def levels_in(levels, columns):
    return [levels[column] for column in columns]


# In how many trials each choice comes, of those that come at all.
def choice_counts(plan, columns):
    counts = {}
    for trial in plan:
        choice = choice_of(trial, columns)
        counts[choice] = counts.get(choice, 0) + 1
    return counts


def is_even_in(plan, levels, columns):
    counts = choice_counts(plan, columns)
    if len(counts) < product_of(levels_in(levels, columns)):
        return False
    return min(counts.values()) == max(counts.values())


def longer_lists(lists, things):
    longer = []
    for columns in lists:
        first = columns[-1] + 1 if columns else 0
        longer.extend([columns + [thing] for thing in range(first, things)])
    return longer


# The shortest list of at most t columns in which the plan is uneven, or None. Short lists come
# first: what is uneven in few columns is so with any put to them, and there are far fewer
# short lists to look through than long ones.
def uneven_columns(plan, levels, t):
    lists = [[]]
    for count in range(t):
        lists = longer_lists(lists, len(levels))
        for columns in lists:
            if not is_even_in(plan, levels, columns):
                return columns
    return None


def filled_up(columns, things, t):
    others = [thing for thing in range(things) if thing not in columns]
    return sorted(columns + others[:t - len(columns)])


# The choice that comes in the fewest trials. One that comes in none, where there is such, is
# found among the first choices, one more than those that come.
def rarest_choice(counts, levels):
    for place in range(min(len(counts) + 1, product_of(levels))):
        choice = trial_at(levels, place)
        if choice not in counts:
            return choice
    return min(counts, key=lambda one: counts[one])


def even_to(plan, levels, t):
    short = uneven_columns(plan, levels, t)
    if short is None:
        return ("even",)
    columns = filled_up(short, len(levels), t)
    counts = choice_counts(plan, columns)
    most = max(counts, key=lambda one: counts[one])
    return ("uneven", columns, most, rarest_choice(counts, levels_in(levels, columns)))


def least_trials(levels, u):
    # sums[k]: the sum over the sets of k things, of those walked so far.
    sums = [1] + [0] * u
    for steps in levels:
        sums = [1] + [sums[k] + (steps - 1) * sums[k - 1] for k in range(1, u + 1)]
    return sum(sums)
