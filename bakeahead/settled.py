"""Which first days of a steady bakery are settled, whatever comes behind, and how soon."""

from bakeahead.steady import last_lits


def chain_of(lasts, number):
    """A number of first days, then the last lit day for it, then that for this day, and so on."""
    chain = [number]
    while lasts[chain[-1]] is not None:
        chain.append(lasts[chain[-1]])
    return chain


def settled_by(lasts, known):
    """A tuple (many, lit): what is settled where so many first days are known; lasts tells the last lit days.

    Whatever comes behind, some cheapest plan has, of the known days, one from the last lit one on as its last; ahead of
    it all is as the chain of its number tells, and so settled is what these chains share.
    """
    last = lasts[known]
    if last is None:
        return (0, [])
    chains = [chain_of(lasts, number) for number in range(last, known)]
    shared = [number for number in chains[0] if all([number in chain for chain in chains])]
    many = max(shared, default=0)
    return (many, sorted(chain_of(lasts, many)[1:]))


def settled(bakery):
    """A tuple (many, lit): how many first days of the steady bakery are settled, and which of them are lit."""
    lasts = last_lits(bakery)
    return settled_by(lasts, len(lasts) - 1)


def foresight(bakery):
    """For each day of the steady bakery the least number of first days by which it is settled, or None."""
    lasts = last_lits(bakery)
    sooner = [None for last in lasts[1:]]
    for known in range(len(lasts)):
        many, lit = settled_by(lasts, known)
        for day in range(many):
            if sooner[day] is None:
                sooner[day] = known
    return sooner
