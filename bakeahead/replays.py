"""Plans replayed: what happens on each day, and over the night behind it."""

from bakeahead.bakeries import look_at_bakery


def no_loaves(bakery):
    """For each day a list of its own with a 0 for each good."""
    lights, bound, goods = bakery
    return [[0 for good in goods] for light in lights]


def is_lit(baked):
    """Whether something is baked on a day, by the loaves of each good."""
    return any([many > 0 for many in baked])


def day_cost(bakery, day, baked, kept, waiting):
    """What a day and the night behind it cost, by the loaves of each good."""
    lights, bound, goods = bakery
    cost = lights[day] if is_lit(baked) else 0
    for good, (days, life) in enumerate(goods):
        want, loaf, keep, fine = days[day]
        cost += baked[good] * loaf + kept[good] * keep
        # A night without a fine has None there, and nothing waits over it.
        if fine is not None:
            cost += waiting[good] * fine
    return cost


def replayed(bakery, plan):
    """For each day a tuple (lit, baked, given, kept, waiting, cost), by a plan that fits."""
    look_at_bakery(bakery)
    baked = no_loaves(bakery)
    given = no_loaves(bakery)
    kept = no_loaves(bakery)
    waiting = no_loaves(bakery)
    for oven, good, wanted, many in plan:
        baked[oven][good] += many
        given[max(oven, wanted)][good] += many
        for night in range(oven, wanted):
            kept[night][good] += many
        for night in range(wanted, oven):
            waiting[night][good] += many
    told = []
    for day in range(len(baked)):
        cost = day_cost(bakery, day, baked[day], kept[day], waiting[day])
        told.append((is_lit(baked[day]), baked[day], given[day], kept[day], waiting[day], cost))
    return told
