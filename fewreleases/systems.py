"""Systems of services and the channels between them."""

from fewreleases.errors import BadChannels, BadServices, NoChannel
from fewreleases.fields import accepts, is_format
from fewreleases.names import is_ascending, is_name, is_names

MOST_SERVICES = 12
MOST_CHANNELS = 40


class System:
    """The services of a system and the channels between them."""

    def __init__(self, services, channels):
        if not is_names(services, 1, MOST_SERVICES):
            raise BadServices(services)
        if not is_channels(services, channels):
            raise BadChannels(channels)
        self.services = services
        self.channels = channels

    def __eq__(self, other):
        return isinstance(other, System) and self.services == other.services and self.channels == other.channels


def is_channels(services, value):
    """Return whether any value is the channels of a system with these services."""
    if not isinstance(value, tuple) or len(value) > MOST_CHANNELS:
        return False
    if not all([is_channel(services, part) for part in value]):
        return False
    return is_ascending([channel[0] for channel in value])


def is_channel(services, value):
    """Return whether any value is a channel between these services."""
    if not isinstance(value, tuple) or len(value) != 5:
        return False
    name, sender, receiver, old, new = value
    return is_name(name) and sender in services and receiver in services and is_format(old) and is_format(new)


def channel_of(system, name):
    """Return the channel with this name."""
    # Compared one by one, because the name may be a value that no dict takes as a key.
    for channel in system.channels:
        if channel[0] == name:
            return channel
    raise NoChannel(name)


def kind_of(system, name):
    """Return the kind of the channel with this name."""
    return channel_kind(channel_of(system, name))


def channel_kind(channel):
    """Return the kind of a channel."""
    old = channel[3]
    new = channel[4]
    old_accepts_new = accepts(old[1:], new[0])
    new_accepts_old = accepts(new[1:], old[0])
    if old_accepts_new and new_accepts_old:
        return "free"
    if new_accepts_old:
        return "reader first"
    if old_accepts_new:
        return "writer first"
    return "split"


def exchanged(system):
    """Return the system with the old and the new format of every channel exchanged."""
    channels = [(name, sender, receiver, new, old) for name, sender, receiver, old, new in system.channels]
    return System(system.services, tuple(channels))
