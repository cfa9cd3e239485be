"""Systems and plans as texts."""

from fewreleases.errors import BadText
from fewreleases.names import is_names
from fewreleases.plans import has_each_once, is_release_by
from fewreleases.steps import all_chains, steps_by_service
from fewreleases.systems import MOST_CHANNELS, MOST_SERVICES, System, is_channel

CHANNEL_WORDS = 10


def show_system(system):
    """Return the text of a system."""
    rows = [" ".join(("services",) + system.services)]
    return "\n".join(rows + [channel_row(channel) for channel in system.channels])


def show_plan(plan):
    """Return the text of a plan."""
    return "\n".join([release_row(release) for release in plan])


def read_system(text):
    """Return the system that a text describes."""
    if not isinstance(text, str):
        raise BadText(0)
    rows = text.split("\n")
    first, *names = rows[0].split(" ")
    services = tuple(names)
    if first != "services" or not is_names(services, 1, MOST_SERVICES):
        raise BadText(0)
    channels = []
    for at, row in enumerate(rows[1:], start=1):
        channel = channel_from(row)
        if not is_next_channel(services, channels, channel):
            raise BadText(at)
        channels.append(channel)
    return System(services, tuple(channels))


def read_plan(system, text):
    """Return the plan of the system that a text describes."""
    if not isinstance(text, str):
        raise BadText(0)
    own = steps_by_service(system.services, all_chains(system))
    # The empty text has no rows, but splitting it would give one.
    rows = text.split("\n") if text else []
    done = []
    plan = []
    for at, row in enumerate(rows):
        release = release_from(row.split(" "))
        if not is_release_by(own, release) or any([step in done for step in release[1]]):
            raise BadText(at)
        done.extend(release[1])
        plan.append(release)
    if not has_each_once(own, plan):
        raise BadText(len(rows))
    return tuple(plan)


def is_next_channel(services, channels, value):
    """Return whether any value is a channel that can stand behind these channels of a system."""
    if len(channels) == MOST_CHANNELS or not is_channel(services, value):
        return False
    return not channels or channels[-1][0] < value[0]


def channel_row(channel):
    """Return the row of a channel."""
    name, sender, receiver, old, new = channel
    return " ".join(["channel", name, sender, receiver] + [fields_word(fields) for fields in old + new])


def channel_from(row):
    """Return the channel of a row as far as the words can say, or None."""
    words = row.split(" ")
    if len(words) != CHANNEL_WORDS or words[0] != "channel":
        return None
    fields = tuple([fields_from(word) for word in words[4:]])
    return (words[1], words[2], words[3], fields[:3], fields[3:])


def fields_word(fields):
    """Return the word of fields."""
    return ",".join(fields) if fields else "-"


def fields_from(word):
    """Return the fields of a word as far as it can say."""
    return () if word == "-" else tuple(word.split(","))


def release_row(release):
    """Return the row of a release."""
    service, steps = release
    return " ".join([service] + [step_word(step) for step in steps])


def release_from(words):
    """Return the release of one or more words as far as they can say."""
    return (words[0], tuple([step_from(word) for word in words[1:]]))


def step_word(step):
    """Return the word of a step."""
    name, word = step
    return f"{name}.{word}"


def step_from(word):
    """Return the step of a word as far as it can say."""
    return tuple(word.split("."))
