"""Chains of items over links: tuples (one, other, day) that give two different items a day."""


def low_links(told):
    """The links that the low bounds of told bounds make."""
    return [(one, other, low) for one, other, low, _ in told]


def table_links(table):
    """The links that the days of a table make, in its order."""
    return [(late, early, day) for late, row in enumerate(table) for early, day in enumerate(row)]


def chain_table(many, links):
    """The history of the greatest days of chains over these links; a pair without a chain has day 0."""
    leader = list(range(many))
    days = {}
    for one, other, day in sorted(links, key=lambda link: -link[2]):
        # All links with a later day are done, so the first one that joins two groups decides.
        if leader[one] != leader[other]:
            ours = [item for item in range(many) if leader[item] == leader[one]]
            theirs = [item for item in range(many) if leader[item] == leader[other]]
            for mine in ours:
                for yours in theirs:
                    days[max(mine, yours), min(mine, yours)] = day
            for yours in theirs:
                leader[yours] = leader[one]
    return tuple([tuple([days.get((late, early), 0) for early in range(late)]) for late in range(many)])


def find_chain(links, one, other, day):
    """A chain from one to other over links with at least this day; there must be one."""
    ahead = [(start, end) for start, end, last in links if last >= day]
    steps = ahead + [(end, start) for start, end in ahead]
    chains = {one: (one,)}
    while other not in chains:
        for start, end in steps:
            if start in chains and end not in chains:
                chains[end] = (*chains[start], end)
    return chains[other]
