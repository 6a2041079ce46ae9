"""Plans on given lit days whose loaves cost the least, and loaf prices that show it."""

from bakeahead.bakeries import look_at_bakery, look_at_days
from bakeahead.errors import TooMuch
from bakeahead.loaves import loaf_price
from bakeahead.plans import cost_of, lit_days
from bakeahead.toomuch import room_of_day, too_much

FACTOR = 32


class Sharing:
    """Wants that are shared among ovens, so that all loaves together cost the least.

    Each oven has a fee and each want a worth, such that no loaf's cost and fee together are less than its worth, and
    just as much where loaves are shared: by this no other sharing of as many costs less. The last want is of all room
    that is left over; it costs nothing, so that in the end each oven's room is shared.
    """

    def __init__(self, rooms, wants, loaf_costs):
        self.rooms = list(rooms)
        self.wanted = wants + [sum(rooms) - sum(wants)]
        self.loaf_costs = [costs + [0] for costs in loaf_costs]
        self.fees = [0 for room in rooms]
        self.worths = [0 for want in self.wanted]
        self.shared = [{} for room in rooms]

    def slack(self, oven, want):
        """By how much a loaf's cost and fee together are more than its worth."""
        return self.loaf_costs[oven][want] + self.fees[oven] - self.worths[want]

    def share(self):
        """Share all room among all wants.

        First in great steps, then in smaller ones. What is shared ahead of a step is whole steps of it, so some can be
        moved on any way; and of each want, or else of each oven's room, less is left than a few of them. So there are
        not many sendings, however many loaves are wanted.
        """
        many = len(self.wanted)
        step = 1
        while step * FACTOR <= max(self.rooms + self.wanted):
            step *= FACTOR
        while step > 0:
            for want in range(many):
                while self.wanted[want] >= step and max(self.rooms) >= step:
                    self.send(want, step)
            step //= FACTOR

    def send(self, want, step):
        """Send loaves to a want, in whole steps, on the nearest way from an oven that has room for a step."""
        search = Search(self, want)
        oven = search.nearest()
        while self.rooms[oven] < step:
            search.go_on(oven)
            oven = search.nearest()
        self.lift(search, search.far[oven])
        way = search.way_from(oven)
        moved = [self.shared[source][through] for through, source, target in way if source is not None]
        many = min([self.rooms[oven], self.wanted[want]] + moved) // step * step
        self.rooms[oven] -= many
        self.wanted[want] -= many
        self.move(way, many)

    def lift(self, search, far):
        """Raise worths and fees of all that is nearer than so far, so that the way there has no slack."""
        for want in search.sources:
            source = search.sources[want]
            self.worths[want] += far if source is None else far - search.far[source]
        for oven in search.seen:
            self.fees[oven] += far - search.far[oven]

    def move(self, way, many):
        """Let so many loaves of each want on the way come from its target, no more from its source."""
        for want, source, target in way:
            self.shared[target][want] = self.shared[target].get(want, 0) + many
            if source is not None:
                self.shared[source][want] -= many
                if self.shared[source][want] == 0:
                    del self.shared[source][want]


class Search:
    """The nearest ways from one want to the ovens, by slack.

    A way goes from a want to any oven, and from an oven on to the wants that it bakes for already: these may be met
    from yet another oven in its stead.
    """

    def __init__(self, sharing, want):
        self.sharing = sharing
        self.unseen = list(range(len(sharing.rooms)))
        self.seen = []
        self.sources = {want: None}
        self.far = [sharing.slack(oven, want) for oven in self.unseen]
        self.through = [want for oven in self.unseen]

    def nearest(self):
        """The nearest oven that is unseen."""
        return min(self.unseen, key=lambda oven: self.far[oven])

    def go_on(self, oven):
        """Go on from the nearest oven to the wants it bakes for, and from these to the unseen ovens."""
        self.unseen.remove(oven)
        self.seen.append(oven)
        for want in self.sharing.shared[oven]:
            if want not in self.sources:
                self.sources[want] = oven
                self.go_through(want, self.far[oven])

    def go_through(self, want, far):
        """Go from a want that is so far to the unseen ovens, where that is nearer."""
        for oven in self.unseen:
            further = far + self.sharing.slack(oven, want)
            if further < self.far[oven]:
                self.far[oven] = further
                self.through[oven] = want

    def way_from(self, oven):
        """Tuples (want, source, target) from an oven back: what the target bakes in the source's stead.

        The source of the last one, the want from which was searched, is None.
        """
        way = []
        while oven is not None:
            want = self.through[oven]
            way.append((want, self.sources[want], oven))
            oven = self.sources[want]
        return way


def wanted_days(bakery):
    """Tuples (good, given, want) of the days on which something is wanted."""
    lights, bound, goods = bakery
    days = [(good, given, day[0]) for good, each in enumerate(goods) for given, day in enumerate(each[0])]
    return [(good, given, want) for good, given, want in days if want > 0]


def costs_on(bakery, wanted, lit):
    """For each lit day a list with the price of a loaf for each wanted day.

    Where it has none there is one so great that no loaf is shared so in the end where a plan fits: to share otherwise
    a loaf at most of each lit day has to be baked elsewhere.
    """
    lights, bound, goods = bakery
    table = [[loaf_price(goods[good], baked, given) for good, given, want in wanted] for baked in lit]
    greatest = max([price for prices in table for price in prices if price is not None], default=0)
    never = (len(lit) + 1) * greatest + 1
    return [[never if price is None else price for price in prices] for prices in table]


def shared_on(bakery, lit):
    """The wanted days, shared among the lit days, where a plan fits that bakes on none but these."""
    wanted = wanted_days(bakery)
    room = room_of_day(bakery)
    wants = [want for good, given, want in wanted]
    sharing = Sharing([room for day in lit], wants, costs_on(bakery, wanted, lit))
    sharing.share()
    return sharing


def look_at_lit(bakery, lit):
    """Refuse what is no bakery, then what are no lit days, then such on which too much would have to be baked."""
    look_at_bakery(bakery)
    look_at_days(bakery, lit)
    lights, bound, goods = bakery
    stretch = too_much(bakery, [day for day in range(len(lights)) if day not in lit])
    if stretch is not None:
        first, last = stretch
        raise TooMuch(first, last)


def loaf_cost(bakery, plan):
    """What a plan that fits costs without the lights."""
    cost = cost_of(bakery, plan)
    lights, bound, goods = bakery
    return cost - sum([lights[day] for day in lit_days(plan)])


def baked_on(bakery, lit):
    """A plan that fits and bakes on none but the lit days, whose loaf cost is least."""
    look_at_lit(bakery, lit)
    sharing = shared_on(bakery, lit)
    plan = []
    for place, (good, given, want) in enumerate(wanted_days(bakery)):
        for day, shared in zip(lit, sharing.shared):
            if place in shared:
                plan.append((day, good, given, shared[place]))
    return sorted(plan)


def loaf_prices(bakery, lit):
    """Loaf prices such that all wants, by them, less the gains of the lit days, come to the least loaf cost."""
    look_at_lit(bakery, lit)
    lights, bound, goods = bakery
    sharing = shared_on(bakery, lit)
    told = [[0 for light in lights] for good in goods]
    for place, (good, given, want) in enumerate(wanted_days(bakery)):
        told[good][given] = sharing.worths[place] - sharing.worths[-1]
    return told
