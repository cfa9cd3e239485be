"""The steps of a system, their owners, and the order in which they must be done."""

from fewreleases.errors import NoService, NoStep
from fewreleases.names import is_ascending
from fewreleases.systems import channel_kind

# The steps on a channel that must be done in this order, each in an earlier release than the next.
ORDERED_WORDS = {
    "free": (),
    "reader first": ("read", "switch"),
    "writer first": ("switch", "read"),
    "split": ("widen", "switch", "narrow"),
}


def all_steps(system):
    """Return the ascending tuple of all steps."""
    return tuple(sorted([step for step, owner in owned_steps(system)]))


def steps_of(system, service):
    """Return the ascending tuple of the steps that a service owns."""
    if service not in system.services:
        raise NoService(service)
    return tuple(sorted([step for step, owner in owned_steps(system) if owner == service]))


def owner_of(system, step):
    """Return the service that owns a step."""
    # Compared one by one, because the step may be a value that no dict takes as a key.
    for known, owner in owned_steps(system):
        if known == step:
            return owner
    raise NoStep(step)


def order_pairs(system):
    """Return the ascending tuple of all order pairs."""
    return tuple(sorted([pair for channel in system.channels for pair in channel_pairs(channel)]))


def is_steps_among(steps, value):
    """Return whether any value is an ascending tuple of some of these steps."""
    if not isinstance(value, tuple):
        return False
    return all([part in steps for part in value]) and is_ascending(value)


def owned_steps(system):
    """Return the list of (step, owner) for all steps, channel by channel."""
    return [
        ((channel[0], word), word_owner(channel, word))
        for channel in system.channels
        for word in channel_words(channel)
    ]


def channel_words(channel):
    """Return the list of the words of the steps of a channel."""
    old = channel[3]
    new = channel[4]
    words = []
    if old[0] != new[0]:
        words.append("switch")
    if old[1:] != new[1:]:
        words.extend(["widen", "narrow"] if channel_kind(channel) == "split" else ["read"])
    return words


def word_owner(channel, word):
    """Return the service that owns the step with this word on a channel."""
    return channel[1] if word == "switch" else channel[2]


def channel_pairs(channel):
    """Return the list of the order pairs of a channel."""
    name = channel[0]
    words = ORDERED_WORDS[channel_kind(channel)]
    return [((name, first), (name, second)) for first, second in zip(words, words[1:])]
