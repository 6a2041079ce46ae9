"""What several tests use: bakeries, odd things, and questions that are asked with a close look."""

import copy
import itertools

from bakeahead.errors import NoBakery, NoDoughs, NotPlain, NotSteady
from bakeahead.toomuch import too_much

TOP = 10 ** 9
SIXTY_FIGURES = 10 ** 60 - 1


class Thing:
    """An object of a class that the program doesn't know."""


def some_function():
    return 0


NO_WHOLE = [
    True, False, None, "", "0", "1", "one", b"", b"1", [], [0], [1], (), (0,), (1,), {}, {0: 1}, set(), {1},
    object(), Thing(), Thing, int, len, some_function, lambda: 1, ValueError("1"), range(1), NotImplemented, ...,
]
NO_NUMBER = NO_WHOLE + [-1, -2, -TOP, TOP + 1, TOP + 2, 10 ** 18, SIXTY_FIGURES, -SIXTY_FIGURES]


# What are no lit and no dark days of a bakery of three days.
NO_DAYS = [
    None, 0, 1, "", "012", b"", (), (0,), (0, 1), {}, {0: 1}, set(), {0}, range(2), Thing(), object(), True, False,
    [1, 0], [0, 0], [0, 1, 1], [2, 1, 0], [0, 2, 1], [3], [0, 3], [-1], [-1, 0], [0, 1, 2, 3], [SIXTY_FIGURES],
    [-SIXTY_FIGURES], [True], [False], [0, True], [False, 1], [0, True, 2], [None], [0, None], ["0"], ["0", "1"], [[]],
    [[0]], [0, [1]], [(0,)], [(0, 1)], [b"0"], [object()], [0, Thing()], [{}], [0, 1, "2"], list(range(1000)),
]


def replaced(thing, path, new):
    """A copy of nested lists and tuples, with another thing at the place to which the path leads."""
    if not path:
        return new
    parts = [copy.deepcopy(part) if at != path[0] else part for at, part in enumerate(thing)]
    parts[path[0]] = replaced(parts[path[0]], path[1:], new)
    return tuple(parts) if isinstance(thing, tuple) else parts


def at_path(thing, path):
    for step in path:
        thing = thing[step]
    return thing


def one_good(lights, days, life=None, bound=None):
    return (lights, bound, [(days, life)])


def even_bakery(many, day, light=1, life=None, bound=None, goods=1):
    """A bakery whose days, of all goods, are alike."""
    return ([light] * many, bound, [([day] * many, life) for _ in range(goods)])


def three_days():
    """A bakery of one good: loaves keep one night; wants of day 0 may wait for day 1."""
    return ([10, 20, 30], None, [([(2, 5, 1, 3), (4, 6, 2, None), (0, 7, 4, 9)], 1)])


def two_goods():
    """A bakery of two goods and four days, at most nine loaves a day."""
    return (
        [10, 20, 30, 40],
        9,
        [
            ([(2, 5, 1, 3), (4, 6, 2, 8), (0, 7, 4, None), (3, 2, 6, 1)], 2),
            ([(1, 1, 2, None), (0, 2, 3, 5), (5, 3, 4, 7), (2, 9, 1, 2)], None),
        ],
    )


# No bakery, and the good and the day by which each is refused.
NO_BAKERIES = [
    (None, None, None),
    (7, None, None),
    ("bakery", None, None),
    ([], None, None),
    ({}, None, None),
    (object(), None, None),
    (list(three_days()), None, None),
    (replaced(three_days(), [0, 1], True), None, None),
    (replaced(three_days(), [1], 0), None, None),
    (replaced(three_days(), [2], []), None, None),
    (replaced(two_goods(), [2, 1], None), 1, None),
    (replaced(three_days(), [2, 0, 1], 41), 0, None),
    (replaced(three_days(), [2, 0, 0, 2], (1, 2, 3)), 0, 2),
    (replaced(two_goods(), [2, 1, 0, 1, 0], -1), 1, 1),
]


def check_refused(test, good, day, ask, *handed):
    """The asking is refused with NoBakery, of just this good and day."""
    with test.assertRaises(NoBakery) as caught:
        ask(*handed)
    told = (caught.exception.good, caught.exception.day)
    # The very kinds count as well: True is not to stand for 1.
    test.assertEqual(repr(told), repr((good, day)))


def check_refuses_no_bakeries(test, ask, *others):
    """What is no bakery is refused ahead of all else, and a refusal leaves nothing behind."""
    for thing, good, day in NO_BAKERIES:
        with test.subTest(thing=thing):
            check_refused(test, good, day, ask, thing, *others)


def check_refuses_not_plain(test, ask, *others):
    """What is a bakery, but no plain one, is refused with NotPlain."""
    for bound, goods in [(1, 1), (TOP, 1), (None, 2), (5, 2)]:
        for fine in (None, 4):
            with test.assertRaises(NotPlain):
                ask(even_bakery(3, (1, 2, 3, fine), bound=bound, goods=goods), *others)
    with test.assertRaises(NotPlain):
        ask(two_goods(), *others)


# No doughs of a bakery of three days, and the day by which each is refused.
NO_DOUGHS = [
    (None, None), (7, None), ("doughs", None), ((), None), ({}, None), (object(), None), (Thing(), None), (True, None),
    ([], None), ([(1, 2, 3)], None), ([(1, 2, 3)] * 2, None), ([(1, 2, 3)] * 4, None), ([None] * 4, None),
    (((1, 2, 3),) * 3, None), ({0: (1, 2, 3), 1: (1, 2, 3), 2: (1, 2, 3)}, None), ([(1, 2, 3)] * 1000, None),
    ([None, (1, 2, 3), (1, 2, 3)], 0), ([(1, 2, 3), (1, 2), (1, 2, 3)], 1), ([(1, 2, 3), (1, 2, 3), (1, 2, 3, 4)], 2),
    ([[1, 2, 3], (1, 2, 3), (1, 2, 3)], 0), ([(1, 2, 3), (1, 2, 3), [1, 2, 3]], 2), ([(1, 2, 3), "123", None], 1),
    ([(1, 2, 3), (1, True, 3), (1, 2, 3)], 1), ([(1, 2, 3), (1, 2, 3), (False, 2, 3)], 2),
    ([(1, 2, -1), (1, 2, 3), (1, 2, 3)], 0), ([(1, 2, 3), (TOP + 1, 2, 3), (-1, 2, 3)], 1),
    ([(1, 2, 3), (1, 2, 3), (1, None, 3)], 2), ([(1, "2", 3), (1, 2, 3), (1, 2, 3)], 0), ([(), (), ()], 0),
]


def check_refused_doughs(test, day, ask, *handed):
    """The asking is refused with NoDoughs, of just this day, and what is handed in stays as it was."""
    before = repr(handed)
    with test.assertRaises(NoDoughs) as caught:
        ask(*handed)
    test.assertEqual(repr(caught.exception.day), repr(day))
    test.assertEqual(repr(handed), before)


def check_refuses_no_doughs(test, ask, *others):
    """NoBakery, then NotPlain, then NoDoughs, ahead of all else."""
    for doughs in ([(1, 2, 3)] * 3, None, [(1, 2, True)] * 3):
        check_refuses_no_bakeries(test, ask, doughs, *others)
        check_refuses_not_plain(test, ask, doughs, *others)
    for thing, day in NO_DOUGHS:
        with test.subTest(thing=thing):
            check_refused_doughs(test, day, ask, three_days(), thing, *others)


def random_doughs(chance, many, top=None):
    """Doughs of so many days."""
    top = chance.choice([0, 2, 5, 12]) if top is None else top
    mixes = [chance.choice([0, chance.randint(0, min(TOP, 3 * top))]) for _ in range(many)]
    return [(mix, chance.randint(0, top), chance.choice([0, chance.randint(0, top)])) for mix in mixes]


def walked_dough(doughs, mixed, baked):
    """The price of the dough for a loaf, night by night."""
    return doughs[mixed][1] + sum(hold for day, (mix, dough, hold) in enumerate(doughs) if mixed <= day < baked)


def cost_with_mixed(bakery, doughs, mixing, lit):
    """The least cost of all wants, mixed and baked on just these days, None where one can't be."""
    cost = sum(doughs[day][0] for day in mixing) + sum(bakery[0][day] for day in lit)
    for given, day in enumerate(bakery[2][0][0]):
        prices = all_prices(bakery, 0, given)
        ways = [prices[baked] + walked_dough(doughs, mixed, baked)
                for baked in lit if baked in prices for mixed in mixing if mixed <= baked]
        if day[0] > 0 and not ways:
            return None
        cost += day[0] * min(ways, default=0)
    return cost


def least_by_all_mixings(bakery, doughs):
    """The least cost, of a bakery of few days, by going through all sets of days of mixing and of baking."""
    sets = sets_of_days(len(bakery[0]))
    costs = [cost_with_mixed(bakery, doughs, mixing, lit) for mixing in sets for lit in sets]
    return min(cost for cost in costs if cost is not None)


def check_refuses_not_steady(test, ask):
    """What is a plain bakery, but no steady one, is refused with NotSteady."""
    fined = [replaced(even_bakery(3, (1, 2, 3, None)), [2, 0, 0, at, 3], fine) for at in range(3) for fine in (0, 5)]
    dear = [replaced(even_bakery(3, (1, 2, 3, None)), [2, 0, 0, at, 1], 6) for at in (1, 2)]
    for bakery in fined + dear + [three_days()]:
        with test.subTest(bakery=bakery):
            with test.assertRaises(NotSteady):
                ask(bakery)


def is_lists_own(told, others):
    """Whether no list within what is told is one of the others, or there twice."""
    seen = {id(other) for other in others}
    for part in lists_within(told):
        if id(part) in seen:
            return False
        seen.add(id(part))
    return True


def lists_within(thing):
    """All lists within nested lists and tuples, the outer one too."""
    if not isinstance(thing, (list, tuple)):
        return []
    inner = [found for part in thing for found in lists_within(part)]
    return [thing] + inner if isinstance(thing, list) else inner


def asked(test, ask, *handed):
    """The answer, told alike when asked again, its lists the asker's own, what is handed in left as it was."""
    before = repr(handed)
    told = ask(*handed)
    first = repr(told)
    test.assertTrue(is_lists_own(told, lists_within(handed)))
    for part in lists_within(told):
        part.append("spoilt")
    again = ask(*handed)
    test.assertEqual(repr(again), first)
    test.assertEqual(repr(handed), before)
    return again


def all_prices(bakery, good, given):
    """The prices of loaves for a want, by the days of baking, of those days on which there is one."""
    prices = {baked: walked_price(bakery, good, baked, given) for baked in range(len(bakery[0]))}
    return {baked: each for baked, each in prices.items() if each is not None}


def all_wants(bakery):
    """Tuples (good, given, want) of all days of all goods."""
    return [(good, given, day[0]) for good, (days, life) in enumerate(bakery[2]) for given, day in enumerate(days)]


def walked_gain(bakery, prices, day):
    """The gain of a day: the least, over all fees for a loaf, of the fees of all room and the gains above the fee."""
    more = []
    for good, given, want in all_wants(bakery):
        cost = walked_price(bakery, good, day, given)
        if cost is not None and prices[good][given] > cost:
            more.append((prices[good][given] - cost, want))
    if bakery[1] is None:
        return sum(each * want for each, want in more)
    fees = [0] + [each for each, want in more]
    return min(bakery[1] * fee + sum(want * max(0, each - fee) for each, want in more) for fee in fees)


def other_days(bakery, days):
    """All days of the bakery but these."""
    return [day for day in range(len(bakery[0])) if day not in days]


def walked_price(bakery, good, baked, given):
    """The price of a loaf by walking from night to night, None where it has none."""
    days, life = bakery[2][good]
    cost = days[baked][1]
    nights = 0
    for night in range(len(days)):
        if baked <= night < given:
            cost += days[night][2]
            nights += 1
        if given <= night < baked:
            if days[night][3] is None:
                return None
            cost += days[night][3]
    return None if life is not None and nights > life else cost


def random_day(chance, top, fines=True):
    fine = chance.choice([None, 0, chance.randint(0, top)]) if fines else None
    return (chance.choice([0, 1, chance.randint(0, 5)]), chance.randint(0, top), chance.randint(0, top), fine)


def random_bakery(chance, many, goods=1, bound=None, fines=True):
    """A bakery of small numbers; chance is a random.Random, made of a number, so that all runs are alike."""
    top = chance.choice([2, 5, 12])
    lights = [chance.randint(0, 3 * top) for _ in range(many)]
    lives = [chance.choice([None, None, 0, 1, 2, 40]) for _ in range(goods)]
    return (lights, bound, [([random_day(chance, top, fines) for _ in range(many)], life) for life in lives])


def some_bakery(chance, many):
    """A bakery of chance, with a bound that is tight, or none."""
    bound = chance.choice([None, chance.randint(1, 8)])
    return random_bakery(chance, many, goods=chance.choice([1, 2]), bound=bound, fines=chance.random() < 0.6)


def some_days(chance, many):
    return [day for day in range(many) if chance.random() < chance.choice([0.1, 0.5])]


def great_bakery(chance, many, fines=True):
    """A plain bakery with numbers up to the greatest, and days without a want."""
    lights = [chance.choice([0, 1, TOP, chance.randint(0, TOP)]) for _ in range(many)]
    days = []
    for _ in range(many):
        want = chance.choice([0, 1, TOP, chance.randint(0, TOP), chance.randint(0, 9)])
        fine = chance.choice([None, 0, 1, TOP, chance.randint(0, TOP)]) if fines else None
        days.append((want, chance.choice([0, TOP, chance.randint(0, TOP)]), chance.choice([0, 1, TOP]), fine))
    return one_good(lights, days, life=chance.choice([None, 0, 1, 3, 40]))


def great_goods(chance, many, goods=2):
    """A bakery with numbers up to the greatest, and a bound of which a plan fits, though perhaps with none less."""
    top = chance.choice([4, TOP])
    made = []
    for _ in range(goods):
        life = chance.choice([None, 0, 2, 9, 40])
        fines = chance.choice([[None], [None, 0, top // 2], [0, 1, top]])
        wants = [chance.choice([0, 1, TOP // goods, chance.randint(0, TOP // goods)]) for _ in range(many)]
        days = [(want, chance.randint(0, top), chance.randint(0, top), chance.choice(fines)) for want in wants]
        made.append((days, life))
    lights = [chance.choice([0, top, chance.randint(0, TOP)]) for _ in range(many)]
    least = least_bound((lights, 1, made))
    return (lights, min(TOP, least + chance.choice([0, 0, 1, least // 3])), made)


def least_bound(bakery):
    """The least bound with which a plan fits, of a bakery of which one does with the greatest."""
    low, high = 1, TOP
    while low < high:
        middle = (low + high) // 2
        if too_much((bakery[0], middle, bakery[2]), []) is None:
            high = middle
        else:
            low = middle + 1
    return low


def made_steady(bakery):
    """The plain bakery without fines, and with loaf prices that are no greater than they may be."""
    lights, bound, goods = bakery
    days = []
    for want, loaf, keep, fine in goods[0][0]:
        if days:
            loaf = min(loaf, days[-1][1] + days[-1][2])
        days.append((want, loaf, keep, None))
    return one_good(list(lights), days, life=goods[0][1])


def random_steady(chance, many):
    return made_steady(random_bakery(chance, many, fines=False))


def first_days(bakery, many):
    """The bakery of just so many first days."""
    lights, bound, goods = bakery
    return (lights[:many], bound, [(days[:many], life) for days, life in goods])


def sets_of_days(many):
    """All sets of so many days, as rising lists; for few days alone."""
    return [[day for day in range(many) if number >> day & 1] for number in range(2 ** many)]


def cost_with_lit(bakery, lit):
    """The least cost of all wants, baked on just these days, None where one can't be."""
    cost = sum(bakery[0][day] for day in lit)
    for given, day in enumerate(bakery[2][0][0]):
        prices = [walked_price(bakery, 0, baked, given) for baked in lit]
        prices = [each for each in prices if each is not None]
        if day[0] > 0 and not prices:
            return None
        cost += day[0] * min(prices, default=0)
    return cost


def least_by_all_sets(bakery):
    """The least cost, of a bakery of few days, by going through all sets of lit days."""
    costs = [cost_with_lit(bakery, lit) for lit in sets_of_days(len(bakery[0]))]
    return min(cost for cost in costs if cost is not None)


def random_plan(chance, bakery):
    """A plan that fits a bakery without a bound: each wanted loaf is baked on some day that it has a price on."""
    many = {}
    for good, (days, life) in enumerate(bakery[2]):
        for given, day in enumerate(days):
            ovens = [baked for baked in range(len(days)) if walked_price(bakery, good, baked, given) is not None]
            for loaf in range(day[0]):
                head = (chance.choice(ovens), good, given)
                many[head] = many.get(head, 0) + 1
    return sorted(head + (many[head],) for head in many)


def shares(many, places):
    """All ways to share so many loaves among so many places, as tuples."""
    if places == 0:
        return [()] if many == 0 else []
    return [(first,) + rest for first in range(many + 1) for rest in shares(many - first, places - 1)]


def all_plans(bakery):
    """All plans that fit a bakery of few days and loaves."""
    lights, bound, goods = bakery
    choices = []
    for good, (days, life) in enumerate(goods):
        for given, day in enumerate(days):
            ovens = [baked for baked in range(len(days)) if walked_price(bakery, good, baked, given) is not None]
            ways = shares(day[0], len(ovens))
            choices.append([[(oven, good, given, many) for oven, many in zip(ovens, way) if many] for way in ways])
    plans = [sorted(row for rows in picked for row in rows) for picked in itertools.product(*choices)]
    return [plan for plan in plans if bound is None or most_on_a_day(plan) <= bound]


def most_on_a_day(plan):
    return max([sum(row[3] for row in plan if row[0] == day) for day in range(40)])


def tiny_bakery(chance, loaves=4, most=3):
    """A bakery of so few days and wanted loaves that all of its plans can be gone through; perhaps none fits."""
    many, goods = chance.randint(1, most), chance.randint(1, 2)
    wants = [[0] * many for _ in range(goods)]
    for _ in range(chance.randint(0, loaves)):
        wants[chance.randrange(goods)][chance.randrange(many)] += 1
    made = []
    for row in wants:
        days = [(want, chance.randint(0, 3), chance.randint(0, 3), chance.choice([None, None, 1])) for want in row]
        made.append((days, chance.choice([None, 0, 1])))
    return ([chance.randint(0, 3) for _ in range(many)], chance.choice([None, 1, 2, 3]), made)


def two_goods_plan():
    """A plan that fits two_goods: loaves of the same day, kept ones, late ones."""
    return [
        (0, 0, 0, 2), (0, 0, 1, 3), (0, 1, 0, 1), (0, 1, 2, 2), (1, 0, 3, 3), (2, 0, 1, 1), (2, 1, 3, 2), (3, 1, 2, 3),
    ]
