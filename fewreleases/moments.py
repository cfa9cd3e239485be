"""What is written, read and refused when some steps are done."""

from fewreleases.errors import NotSteps
from fewreleases.fields import accepts, widened
from fewreleases.names import is_some_of
from fewreleases.steps import all_steps


def formats_at(system, done):
    """Return a tuple with (name, written, reader) for each channel."""
    check_done(system, done)
    return tuple([channel_at(channel, done) for channel in system.channels])


def refusals(system, done):
    """Return the names of the channels whose reader does not accept what is written."""
    check_done(system, done)
    return refusals_between(system.channels, done, done)


def refusals_during(system, done, release):
    """Return the names of the channels on which a message is refused during the release."""
    check_done(system, done)
    return refusals_between(system.channels, done, done + release[1])


def check_done(system, done):
    """Raise NotSteps if any value is not steps that are done."""
    if not is_some_of(all_steps(system), done):
        raise NotSteps(done)


def least_refusal(system, done, steps):
    """Return the least name of a channel on which a message is refused during a release of these steps, or None.

    With the steps that are done no channel refuses a message, so only the channels of the new steps are asked.
    """
    names = [name for name, word in steps]
    touched = [channel for channel in system.channels if channel[0] in names]
    found = refusals_between(touched, done, done + steps)
    return found[0] if found else None


def refusals_between(channels, before, after):
    """Return the names of the channels that refuse a message while two versions run side by side.

    The two versions have the steps before and the steps after done. These are
    tuples of steps in any order. A service that does nothing in between has
    two equal versions.
    """
    return tuple([
        channel[0] for channel in channels if is_refused(channel_at(channel, before), channel_at(channel, after))
    ])


def is_refused(row, other):
    """Return whether one of two versions of a channel refuses what one of them writes."""
    readers = (row[2], other[2])
    writings = (row[1], other[1])
    return not all([accepts(reader, written) for reader in readers for written in writings])


def channel_at(channel, done):
    """Return (name, written, reader) of a channel, with these steps done."""
    return (channel[0], written_with(channel, done), reader_with(channel, done))


def written_with(channel, done):
    """Return the fields that are written on a channel, with these steps done."""
    return channel[4][0] if (channel[0], "switch") in done else channel[3][0]


def reader_with(channel, done):
    """Return the reader that is used on a channel, with these steps done."""
    name = channel[0]
    old = channel[3][1:]
    new = channel[4][1:]
    if (name, "read") in done or (name, "narrow") in done:
        return new
    if (name, "widen") in done:
        return widened(old, new)
    return old
