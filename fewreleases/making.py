"""Safe plans in which only some services are released more than once."""

from fewreleases.errors import BadSplit, NotForced
from fewreleases.graph import chain_order
from fewreleases.names import is_some_of
from fewreleases.splits import forced_services
from fewreleases.steps import all_chains

# The rounds of a plan, in which a service may be released.
FIRST = 0
ONLY = 1
MIDDLE = 2
LAST = 3


def plan_with(system, split):
    """Return a safe plan in which only the services in split are released more than once."""
    if not is_some_of(system.services, split):
        raise BadSplit(split)
    chains = all_chains(system)
    for service in forced_services(chains):
        if service not in split:
            raise NotForced(service)
    return releases_with(system.services, chains, split)


def releases_with(services, chains, split):
    """Return safe releases that do all steps of the chains, more than one only of the services in split."""
    order = chain_order(services, chains, split)
    steps = round_steps(chains, split)
    rounds = [(FIRST, split), (ONLY, order), (MIDDLE, split), (LAST, split)]
    places = [(number, service) for number, some in rounds for service in some]
    return tuple([(place[1], tuple(sorted(steps[place]))) for place in places if place in steps])


def round_steps(chains, split):
    """Return a dict that has, for each (round, service) with steps, the list of its steps."""
    found = {}
    for chain in chains:
        for at, (service, step) in enumerate(chain):
            number = split_round(chain, at) if service in split else ONLY
            found.setdefault((number, service), []).append(step)
    return found


def split_round(chain, at):
    """Return the round in which a service that is split does its step of this chain."""
    if at == len(chain) - 1:
        return LAST
    if at == 0:
        return FIRST
    # The step in the middle is the switch of a split channel, the first one its receiver's widen.
    service = chain[at][0]
    receiver = chain[0][0]
    if receiver == service:
        return MIDDLE
    # The first releases are ascending, so a lesser receiver has widened before; and so are the last
    # ones, so a greater receiver narrows behind.
    return FIRST if receiver < service else LAST
