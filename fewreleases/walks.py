"""Walks along edges: cycles, and orders where there is no cycle.

The edges are given as a dict that has, for each service, the list of the
services to which an edge leads from it.
"""


def follower_lists(services, pairs):
    """Return the dict of the followers of each service, by the edges as pairs."""
    followers = {service: [] for service in services}
    for start, end in pairs:
        followers[start].append(end)
    return followers


def cycle_among(followers, services):
    """Return a cycle of some of these services, or None."""
    left = endless(followers, services)
    if not left:
        return None
    # Each service that is left has a follower that is left, so the walk must come back.
    walk = []
    at = left[0]
    while at not in walk:
        walk.append(at)
        at = [end for end in followers[at] if end in left][0]
    return tuple(walk[walk.index(at):])


def endless(followers, services):
    """Return the list of the services from which a walk among these services can go on and on."""
    left = services
    kept = going_on(followers, left)
    while len(kept) < len(left):
        left = kept
        kept = going_on(followers, left)
    return left


def going_on(followers, services):
    """Return the list of the services from which an edge leads to one of these services."""
    return [start for start in services if any([end in services for end in followers[start]])]


def order_among(followers, services):
    """Return the tuple of these services, none of them ahead of one from which an edge leads to it.

    They are ascending and have no cycle. The next one is always the least that is possible.
    """
    left = list(services)
    order = []
    while left:
        led = [end for start in left for end in followers[start]]
        least = [start for start in left if start not in led][0]
        order.append(least)
        left.remove(least)
    return tuple(order)


def is_round(followers, value):
    """Return whether any value is a cycle of the services that the edges are between."""
    if not isinstance(value, tuple) or len(value) < 2:
        return False
    # Not looked up in the dict: a part may be a value that no dict takes as a key.
    services = list(followers)
    if not all([part in services for part in value]) or len(set(value)) != len(value):
        return False
    return all([end in followers[start] for start, end in zip(value, value[1:] + value[:1])])
